/- Whatever is done on a disk, each answer is the document's (P7.1 to P7.3); no conditions. -/
import Derived.Test.YtebebbehiegleaaOpenK
import Derived.Test.YtebebbehiegleaaDiCode
import Derived.Test.YtebebbehiegleaaDiPair
import Derived.Test.YtebebbehiegleaaPass
namespace Go.Proofs.Ytebebbehiegleaa.diskActs
open Go.ChangeShapes Go.WideShapes Go.ChangeAt Go.RowKit
open Go.ChangeMaps (open_string shut_string)
set_option linter.unusedVariables false

set_option maxHeartbeats 40000000 in
set_option maxRecDepth 100000 in
theorem walk (a0 : Int) (a1 : Option Addr) (l1 c1 : Nat) (z1 : List ActK) (w0 : (Lit.int .i64 a0).wf = true) (w : World) (w1 : SlcK w a1 l1 c1 z1) :
    Calls Try.prog 3 #[.int .i64 a0, .slice a1 l1 c1] w fun e w' => e = .returned (.bool true) ∧ Below w.heap.size w w' := by
  have he0 := wf_i64 w0
  obtain ⟨rfl, hlc, hrd, hoks⟩ := w1
  have HR := Lib.hid hrd
  have HOk := Lib.hid hoks
  obtain ⟨C⟩ := diSpec_is
  clear w0 hrd hoks
  go_enter Try.func3, Try.ntmps3
  go_wp2_with fail
  refine (awake_any C _).mono ?_
  rintro e x1 ⟨rfl, b1⟩
  by_cases hbig : 60 < z1.length
  · have hbig2 : (60 : Int) < (z1.length : Int) := by omega
    go_wp2_with fail
    refine (awake_any C _).mono ?_
    rintro e x2 ⟨rfl, b2⟩
    go_wp2_with fail
    go_ret
    exact ⟨rfl, b1.trans (b2.mono b1.size)⟩
  · have hbig2 : decide ((60 : Int) < (z1.length : Int)) = false := decide_eq_false (by omega)
    have hbig3 : ¬ ((60 : Int) < (z1.length : Int)) := by omega
    have hl60 : z1.length ≤ 60 := by omega
    clear hbig
    by_cases hbad : a0 < 0 ∨ 1073741824 < a0
    · have n1 := Lib.hid (C.newBad a0 x1 he0 hbad)
      have hsp : a0 < 0 ∨ (¬ a0 < 0 ∧ 1073741824 < a0) := by omega
      clear hbad
      rcases hsp with h | ⟨h, h2⟩
      all_goals
        go_wp2_with fail
        refine n1.out.mono ?_
        rintro e x2 ⟨rfl, b2⟩
        go_wp2_with fail
        go_ret
        exact ⟨rfl, b1.trans (b2.mono b1.size)⟩
    · obtain ⟨n, rfl⟩ : ∃ n : Nat, a0 = (n : Int) := ⟨a0.toNat, by omega⟩
      have hn30 : n ≤ 1073741824 := by omega
      have h1 : ¬ ((n : Int) < 0) := by omega
      have h2 : ¬ (1073741824 < (n : Int)) := by omega
      have h1d : decide ((n : Int) < 0) = false := decide_eq_false h1
      have h2d : decide (1073741824 < (n : Int)) = false := decide_eq_false h2
      have HN1 := Lib.hid (C.new_ n x1 hn30)
      clear hbad
      go_wp2_with fail
      refine HN1.out.mono ?_
      rintro e x2 ⟨N1, S1, rfl, a1', b2⟩
      have B2 := b1.trans (b2.mono b1.size)
      have hbuild := fun W => run_build (P := Try.prog) W 31 #[(0, .int .i64 (n : Nat))] #[.int .i64 (n : Nat), .slice none 0 0, .slice none 0 0] (by kernel_rfl)
      have hb3 := (Below.refl x2.heap.size x2).alloc (Nat.le_refl _) (.cells #[.int .i64 (n : Nat), .slice none 0 0, .slice none 0 0] 31)
      have M3 : DuoD C w (x2.alloc (.cells #[.int .i64 (n : Nat), .slice none 0 0, .slice none 0 0] 31)) x1.heap.size N1 n x2.heap.size x2.heap.size (.slice none 0 0) (.slice none 0 0) [] [] S1 := by
        have ha := C.below a1' hb3
        have hf := fun k hk => C.foot a1' k hk
        have hs2 := B2.size
        refine ⟨ha, ⟨heap_alloc_new x2 _, Nat.le_refl _, LayG.Row.nil _ _, LayG.Row.nil _ _, (fun e => by cases e), (fun e => by cases e), fun g hg => by cases hg⟩, fun k hk => ⟨Nat.le_trans b1.size (hf k hk).1, by have := (hf k hk).2; simp; omega⟩, fun k hk => ?_, fun k hk hk2 => ?_, B2.alloc B2.size _⟩
        · rcases hk with rfl | hk | hk
          · exact ⟨hs2, by simp⟩
          · cases hk
          · cases hk
        · rcases hk2 with rfl | hk2 | hk2
          · have := (hf _ hk).2; omega
          · cases hk2
          · cases hk2
      have HM3 := Lib.hid M3
      clear M3 a1' b1 b2 B2 hb3 HN1
      go_wp2_with fail
      go_loopw [8] (fun i wr => ∃ (k : Nat) (vS vR : Value) (sf rs : List UInt8) (S : Nat → Prop), i = .int .i64 (k : Nat) ∧ k ≤ z1.length ∧ DuoD C w wr x1.heap.size N1 n x2.heap.size x2.heap.size vS vR sf rs S ∧ sf.length + rs.length ≤ k * 2000) (fun i _ => z1.length - (intOf i).toNat)
      case atStart => exact ⟨0, _, _, [], [], S1, rfl, Nat.zero_le _, HM3.out, Nat.zero_le _⟩
      case round =>
        clear HM3 hbuild
        obtain ⟨wk, hwk⟩ : ∃ x, x = wr := ⟨_, rfl⟩
        subst hwk
        obtain ⟨k, vS, vR, sf, rs, S, rfl, hk, hM, hsz⟩ := hrel
        have HM := Lib.hid hM
        have HSz := Lib.hid hsz
        have hbw := hM.bel
        clear hM hsz
        by_cases hlt : k < z1.length
        · have hlt2 : (k : Int) < (z1.length : Int) := by omega
          obtain ⟨ad, rfl, hblk, d0, d1, d2⟩ := layK_at (HR.out.below (Nat.le_refl _) hbw) hlt
          have hok := HOk.out _ (mem_getDK hlt)
          have hsz6 : sf.length + rs.length ≤ 120000 := by have := HSz.out; omega
          obtain ⟨z, hz⟩ : ∃ z, z1.getD k default = z := ⟨_, rfl⟩
          rw [hz] at d0 d1 d2 hok
          obtain ⟨kd, num, ba, bc, bss⟩ := z
          dsimp only at d0 d1 d2
          have hX : BoxK (wk.alloc (.cells #[.int .i64 kd, .int .i64 num, .slice ba bss.length bc] 34)) wk.heap.size ⟨kd, num, ba, bc, bss⟩ (fun x => S x ∨ footK x2.heap.size vS vR x) := ⟨heap_alloc_new wk _, fun h => by
            rcases h with h | h
            · have := (HM.out.fa _ h).2; omega
            · have := (HM.out.fb _ h).2; omega⟩
          have hM1 := HM.out.below ((Below.refl wk.heap.size wk).alloc (Nat.le_refl _) (.cells #[.int .i64 kd, .int .i64 num, .slice ba bss.length bc] 34))
          have hbx : w.heap.size ≤ wk.heap.size := hbw.size
          obtain ⟨W1, hW1⟩ : ∃ W, wk.alloc (.cells #[.int .i64 kd, .int .i64 num, .slice ba bss.length bc] 34) = W := ⟨_, rfl⟩
          rw [hW1] at hX hM1
          obtain ⟨y0, y1, y2⟩ := hX.cells
          dsimp only at y0 y1 y2
          have HX := Lib.hid hX
          have HM1 := Lib.hid hM1
          have HOk1 := Lib.hid hok
          have HW1 := Lib.hid hW1
          have hls : bss.length ≤ bc := hok.2.2.2.1
          clear hz hX hM1 hok hW1
          by_cases h10 : 10 < bss.length
          · have h10i : (10 : Int) < (bss.length : Int) := by omega
            go_wp2_with fail
            go_ret
            exact ⟨rfl, hbw.alloc hbw.size _⟩
          · have h10i : ¬ ((10 : Int) < (bss.length : Int)) := by omega
            have h10d : decide ((10 : Int) < (bss.length : Int)) = false := decide_eq_false h10i
            go_wp2_with fail
            rw [HW1.out]
            clear d0 d1 d2 hblk HW1
            generalize wk.heap.size = bx at *
            go_loopw [10] (fun i wx => ∃ m : Nat, m ≤ bss.length ∧ i = .int .i64 (m : Nat) ∧ (∀ z ∈ bss.take m, z.bs.length ≤ 200) ∧ wx = W1) (fun i _ => bss.length - (intOf i).toNat)
            case atStart => exact ⟨0, Nat.zero_le _, rfl, fun z hz => by simp at hz, rfl⟩
            case round =>
              obtain ⟨m, hm, rfl, hall, rfl⟩ := hrel
              have HAll := Lib.hid hall
              clear hall
              by_cases hltm : m < bss.length
              · obtain ⟨ae, hae, _, e0⟩ := layS_at (HOk1.out.2.2.2.2.below (Nat.le_refl _) HM1.out.bel).1 hltm
                subst hae
                have hta : bss.take (m + 1) = bss.take m ++ [bss.getD m default] := by rw [List.take_succ_eq_append_getElem hltm, List.getD_eq_getElem?_getD, List.getElem?_eq_getElem hltm]; rfl
                obtain ⟨z, hz⟩ : ∃ z, bss.getD m default = z := ⟨_, rfl⟩
                rw [hz] at e0 hta
                obtain ⟨za, zc, zb⟩ := z
                unfold BsZ.val at e0
                dsimp only at e0
                have hmi : (m : Int) < (bss.length : Int) := by omega
                by_cases hbg : 200 < zb.length
                · have hbi : (200 : Int) < (zb.length : Int) := by omega
                  clear hz hta
                  go_wp2_with fail
                  go_ret
                  exact ⟨rfl, HM1.out.bel⟩
                · have hbi : ¬ ((200 : Int) < (zb.length : Int)) := by omega
                  have hall2 : ∀ y ∈ bss.take (m + 1), y.bs.length ≤ 200 := fun y hy => by
                    rw [hta] at hy
                    rcases List.mem_append.1 hy with h | h
                    · exact HAll.out y h
                    · rw [List.mem_singleton.1 h]; show zb.length ≤ 200; omega
                  have HAll2 := Lib.hid hall2
                  clear hz hta hall2
                  go_wp2_with fail
                  go_roundw
                  case rel => exact ⟨m + 1, by omega, by go_num, HAll2.out, by first | rfl | trivial⟩
                  case measure => simp [intOf]; omega
              · obtain rfl : m = bss.length := by omega
                have hcl : (catS bss).length ≤ 2000 := by
                  have h1 := catS_le bss 200 (by have := HAll.out; rwa [List.take_length] at this)
                  omega
                clear HAll hltm
                have hal : (sf ++ rs).length ≤ 120000 := by rw [List.length_append]; exact hsz6
                have hr1 := HOk1.out.2.2.2.2.below (Nat.le_refl _) HM1.out.bel
                have HFa := Lib.hid (HOk1.out.2.2.2.2.lt (fun k hk => (HM1.out.fa k hk).1))
                have HFb := Lib.hid (fun (F : Nat → Prop) (h : ∀ k, F k → w.heap.size ≤ k) => show FreeS F ba bss from HOk1.out.2.2.2.2.lt h)
                have HR1 := Lib.hid hr1
                have HNum := Lib.hid HOk1.out.2.1
                have HCl := Lib.hid hcl
                clear hr1 hcl
                go_upto_block 4 with fail
                go_cut [11] (fun ok wx => ok = .bool true ∧ ∃ (vS vR : Value) (sf rs : List UInt8) (S : Nat → Prop), DuoD C w wx x1.heap.size N1 n x2.heap.size x2.heap.size vS vR sf rs S ∧ sf.length + rs.length ≤ (k + 1) * 2000)
                case first =>
                  by_cases k0 : kd = 0
                  · subst k0
                    by_cases hfit : sf.length + rs.length + (catS bss).length ≤ n
                    · have HN := C.app_ ba bc bss HM1.out.a HR1.out HFa.out hls (by omega) (by have := HCl.out; omega) (by omega) (by rw [List.length_append]; exact hfit)
                      rw [List.append_assoc] at HN
                      have HN := Lib.hid HN
                      go_wp2_with fail
                      refine HN.out.mono ?_
                      rintro e y1 ⟨S', rfl, hA1, m1⟩
                      have M2 := Lib.hid (Duo.moveA (R' := fun W => C.At W x1.heap.size N1 n (sf ++ (rs ++ catS bss)) sf.length S') HM1.out (RefK.st _ _ _ _ _ _ _) hA1 (fun k hk => (C.foot hA1 k hk).2) m1)
                      have X2 := Lib.hid (HX.out.moved m1.orL)
                      obtain ⟨p0, p1, p2⟩ := X2.out.cells
                      dsimp only at p0 p1 p2
                      have HP := Lib.hid (refApp_any ba bc bss M2.out.b (HOk1.out.2.2.2.2.below (Nat.le_refl _) M2.out.bel) (HFb.out _ (fun k hk => (M2.out.fb k hk).1)) hls (by omega) (by have := HCl.out; omega) (by omega) (by omega) hn30)
                      clear hA1 m1 HN
                      go_wp2_with fail
                      refine HP.out.mono ?_
                      rintro e y2 (⟨_, rfl, ⟨vR', hK2, hf2⟩, ho2⟩ | ⟨hnf, _, _⟩)
                      case inr => exact absurd hfit hnf
                      have M3 := Lib.hid (Duo.moveB (R' := fun W => RefK W x2.heap.size x2.heap.size n vS vR' sf (rs ++ catS bss)) M2.out (C.st _ _ _ _ _ _) hK2 (fun k hk => (hK2.foot_lt k hk).2) ⟨ho2, hf2⟩)
                      clear hK2 hf2 ho2 HP
                      go_wp2_with fail
                      go_meet
                      case rel => exact ⟨rfl, vS, vR', sf, rs ++ catS bss, S', M3.out, by rw [List.length_append]; have := HSz.out; have := HCl.out; omega⟩
                    · have HN := Lib.hid (C.appFull ba bc bss HM1.out.a HR1.out HFa.out hls (by omega) (by have := HCl.out; omega) (by omega) (by rw [List.length_append]; exact hfit))
                      go_wp2_with fail
                      refine HN.out.mono ?_
                      rintro e y1 ⟨S', rfl, hA1, m1⟩
                      have M2 := Lib.hid (Duo.moveA (R' := fun W => C.At W x1.heap.size N1 n (sf ++ rs) sf.length S') HM1.out (RefK.st _ _ _ _ _ _ _) hA1 (fun k hk => (C.foot hA1 k hk).2) m1)
                      have X2 := Lib.hid (HX.out.moved m1.orL)
                      obtain ⟨p0, p1, p2⟩ := X2.out.cells
                      dsimp only at p0 p1 p2
                      have HP := Lib.hid (refApp_any ba bc bss M2.out.b (HOk1.out.2.2.2.2.below (Nat.le_refl _) M2.out.bel) (HFb.out _ (fun k hk => (M2.out.fb k hk).1)) hls (by omega) (by have := HCl.out; omega) (by omega) (by have := (C.inv M2.out.a).2.1; rw [List.length_append] at this; exact this) hn30)
                      clear hA1 m1 HN
                      go_wp2_with fail
                      refine HP.out.mono ?_
                      rintro e y2 (⟨hyf, _, _, _⟩ | ⟨_, rfl, hb2⟩)
                      case inl => exact absurd hyf hfit
                      have M3 := Lib.hid (DuoD.below M2.out hb2)
                      clear hb2 HP
                      go_wp2_with fail
                      go_meet
                      case rel => exact ⟨rfl, vS, vR, sf, rs, S', M3.out, by have := HSz.out; omega⟩
                  · by_cases k1 : kd = 1
                    · subst k1
                      have HC := refCrash_any 1073741824 HM1.out.b (by omega)
                      rw [show (1073741824 : Int).toNat = 1073741824 from rfl, List.take_of_length_le (by omega)] at HC
                      obtain ⟨al, hal2⟩ : ∃ al, sf ++ rs = al := ⟨_, rfl⟩
                      rw [hal2] at HC
                      have HAl := Lib.hid hal2
                      have HC := Lib.hid HC
                      clear hal2
                      go_wp2_with fail
                      refine HC.out.mono ?_
                      rintro e y1 ⟨rfl, ⟨vS', hK1, hf1⟩, ho1⟩
                      obtain ⟨AS, cS, rfl, _, _, _, _⟩ := hK1.rS.rd
                      have M2 := Lib.hid (Duo.moveB (R' := fun W => RefK W x2.heap.size x2.heap.size n (.slice AS al.length cS) (.slice none 0 0) al []) HM1.out (C.st _ _ _ _ _ _) hK1 (fun k hk => (hK1.foot_lt k hk).2) ⟨ho1, hf1⟩)
                      have X2 := Lib.hid (HX.out.moved (Moved.orR (F := S) ⟨ho1, hf1⟩))
                      have q1 := M2.out.b.drew.cells.2.1
                      have HB2 := Lib.hid ((Below.refl y1.heap.size y1).drew)
                      have M2d := Lib.hid (Duo.below M2.out (C.st _ _ _ _ _ _) (RefK.st _ _ _ _ _ _ _) (Below.refl y1.heap.size y1).drew)
                      have X2d := Lib.hid (X2.out.below (Below.refl y1.heap.size y1).drew)
                      have n1 := X2d.out.cells.2.1
                      dsimp only at n1
                      clear hK1 hf1 ho1 HC
                      have hF := C.flush_ M2d.out.a
                      rw [HAl.out] at hF
                      have HF := Lib.hid hF
                      clear hF
                      go_wp2_with fail
                      refine wp_region_held_drew (S := (fun W => W.cell? { block := x2.heap.size, off := 1 } = some (.slice AS al.length cS))) (by kernel_rfl) q1 (fun hHeld => ?_)
                      refine wpAnyH_take (i := 0) (v := ?_) (by simp only [List.getElem?_toArray, List.getElem?_cons_zero]; rfl) (by kernel_rfl) (by kernel_rfl) (by kernel_rfl) (by exact fun _ _ _ h => h) (Or.inl ⟨by rfl, ?_⟩) (by assumption) ?_
                      rotate_left
                      · intro w hSw; (try dsimp only at hSw); go_simp; (try with_reducible rfl)
                      try simp only [Act.put, List.setIfInBounds_toArray, List.set_cons_zero, List.set_cons_succ]
                      refine wpAnyH_take (i := 2) (v := ?_) (by simp only [List.getElem?_toArray, List.getElem?_cons_zero, List.getElem?_cons_succ]; rfl) (by kernel_rfl) (by kernel_rfl) (by kernel_rfl) (by exact fun _ _ _ h => h) (Or.inl ⟨by rfl, ?_⟩) (by assumption) ?_
                      rotate_left
                      · intro w hSw; (try dsimp only at hSw); go_simp; (try with_reducible rfl)
                      try simp only [Act.put, List.setIfInBounds_toArray, List.set_cons_zero, List.set_cons_succ]
                      refine wpAnyH_take (i := 3) (v := ?_) (by simp only [List.getElem?_toArray, List.getElem?_cons_zero, List.getElem?_cons_succ]; rfl) (by kernel_rfl) (by kernel_rfl) (by kernel_rfl) (by exact fun _ _ _ h => h) (Or.inl ⟨by rfl, ?_⟩) (by assumption) ?_
                      rotate_left
                      · intro w hSw; (try dsimp only at hSw); go_simp; (try with_reducible rfl)
                      try simp only [Act.put, List.setIfInBounds_toArray, List.set_cons_zero, List.set_cons_succ]
                      refine wpAnyH_take (i := 4) (v := ?_) (by simp only [List.getElem?_toArray, List.getElem?_cons_zero, List.getElem?_cons_succ]; rfl) (by kernel_rfl) (by kernel_rfl) (by kernel_rfl) (by exact fun _ _ _ h => h) (Or.inl ⟨by rfl, ?_⟩) (by assumption) ?_
                      rotate_left
                      · intro w hSw; (try dsimp only at hSw); go_simp; (try with_reducible rfl)
                      try simp only [Act.put, List.setIfInBounds_toArray, List.set_cons_zero, List.set_cons_succ]
                      refine wpAnyH_take (i := 5) (v := ?_) (by simp only [List.getElem?_toArray, List.getElem?_cons_zero, List.getElem?_cons_succ]; rfl) (by kernel_rfl) (by kernel_rfl) (by kernel_rfl) (by exact fun _ _ _ h => h) (Or.inl ⟨by rfl, ?_⟩) (by assumption) ?_
                      rotate_left
                      · intro w hSw; (try dsimp only at hSw); go_simp; (try with_reducible rfl)
                      try simp only [Act.put, List.setIfInBounds_toArray, List.set_cons_zero, List.set_cons_succ]
                      refine wpAnyH_take (i := 6) (v := ?_) (by simp only [List.getElem?_toArray, List.getElem?_cons_zero, List.getElem?_cons_succ]; rfl) (by kernel_rfl) (by kernel_rfl) (by kernel_rfl) (by exact fun _ _ _ h => h) (Or.inl ⟨by rfl, ?_⟩) (by assumption) ?_
                      rotate_left
                      · intro w hSw; (try dsimp only at hSw); go_simp; (try with_reducible rfl)
                      try simp only [Act.put, List.setIfInBounds_toArray, List.set_cons_zero, List.set_cons_succ]
                      refine wpAnyH_ready (rs := [1]) (by kernel_rfl) (by simp) ?_
                      refine AllReadyH.cons (by simp only [List.getElem?_toArray, List.getElem?_cons_zero, List.getElem?_cons_succ]; rfl) (fun K hK => ?_) AllReadyH.nil
                      go_simp
                      refine HF.out.mono ?_
                      rintro e y3 ⟨S', rfl, hA3, m3⟩
                      have M3 := Lib.hid (Duo.moveA (R' := fun W => C.At W x1.heap.size N1 n al al.length S') M2d.out (RefK.st _ _ _ _ _ _ _) hA3 (fun k hk => (C.foot hA3 k hk).2) m3)
                      have q3 := M3.out.b.cells.2.1
                      clear hA3 m3
                      go_wp2_with fail
                      refine hK.out _ _ (q3) (fun hHeld => ?_)
                      clear hK K
                      try simp only [Act.put, List.setIfInBounds_toArray, List.set_cons_zero, List.set_cons_succ]
                      refine wpAnyH_take (i := 7) (v := ?_) (by simp only [List.getElem?_toArray, List.getElem?_cons_zero, List.getElem?_cons_succ]; rfl) (by kernel_rfl) (by kernel_rfl) (by kernel_rfl) (by exact fun _ _ _ h => h) (Or.inl ⟨by rfl, ?_⟩) (by assumption) ?_
                      rotate_left
                      · intro w hSw; (try dsimp only at hSw); go_simp; (try with_reducible rfl)
                      try simp only [Act.put, List.setIfInBounds_toArray, List.set_cons_zero, List.set_cons_succ]
                      refine wpAnyH_take (i := 8) (v := ?_) (by simp only [List.getElem?_toArray, List.getElem?_cons_zero, List.getElem?_cons_succ]; rfl) (by kernel_rfl) (by kernel_rfl) (by kernel_rfl) (by exact fun _ _ _ h => h) (Or.inl ⟨by rfl, ?_⟩) (by assumption) ?_
                      rotate_left
                      · intro w hSw; (try dsimp only at hSw); go_simp; (try with_reducible rfl)
                      try simp only [Act.put, List.setIfInBounds_toArray, List.set_cons_zero, List.set_cons_succ]
                      refine wpAnyH_done (by kernel_rfl) ?_ _
                      go_wp2_with fail
                      go_meet
                      case rel => exact ⟨rfl, _, _, al, [], S', by unfold DuoD; rw [List.append_nil]; exact M3.out, by have h1 : al.length ≤ sf.length + rs.length := (by rw [← HAl.out, List.length_append]; omega); have := HSz.out; show al.length + 0 ≤ _; omega⟩
                    · by_cases k2 : kd = 2
                      · subst k2
                        have HC := refCrash_any num HM1.out.b (by omega)

                        obtain ⟨al, hal2⟩ : ∃ al, sf ++ rs.take num.toNat = al := ⟨_, rfl⟩
                        rw [hal2] at HC
                        have HAl := Lib.hid hal2
                        have HC := Lib.hid HC
                        clear hal2
                        go_wp2_with fail
                        refine HC.out.mono ?_
                        rintro e y1 ⟨rfl, ⟨vS', hK1, hf1⟩, ho1⟩
                        obtain ⟨AS, cS, rfl, _, _, _, _⟩ := hK1.rS.rd
                        have M2 := Lib.hid (Duo.moveB (R' := fun W => RefK W x2.heap.size x2.heap.size n (.slice AS al.length cS) (.slice none 0 0) al []) HM1.out (C.st _ _ _ _ _ _) hK1 (fun k hk => (hK1.foot_lt k hk).2) ⟨ho1, hf1⟩)
                        have X2 := Lib.hid (HX.out.moved (Moved.orR (F := S) ⟨ho1, hf1⟩))
                        have q1 := M2.out.b.drew.cells.2.1
                        have HB2 := Lib.hid ((Below.refl y1.heap.size y1).drew)
                        have M2d := Lib.hid (Duo.below M2.out (C.st _ _ _ _ _ _) (RefK.st _ _ _ _ _ _ _) (Below.refl y1.heap.size y1).drew)
                        have X2d := Lib.hid (X2.out.below (Below.refl y1.heap.size y1).drew)
                        have n1 := X2d.out.cells.2.1
                        dsimp only at n1
                        clear hK1 hf1 ho1 HC
                        have hF := C.crash_ num M2d.out.a HNum.out (by omega)
                        have hkp : keepR (sf ++ rs) sf.length num = al.length := by rw [← HAl.out]; unfold keepR; rw [List.length_append, Nat.add_sub_cancel_left, List.length_append, List.length_take]
                        have htk : (sf ++ rs).take al.length = al := by
                          rw [← HAl.out, List.length_append, List.take_append, List.take_of_length_le (by omega), Nat.add_sub_cancel_left, List.length_take, List.take_eq_take_min (i := min _ _)]
                          rw [List.take_eq_take_min (i := num.toNat), Nat.min_assoc, Nat.min_self]
                        rw [hkp, htk] at hF
                        have HF := Lib.hid hF
                        clear hF hkp htk
                        go_wp2_with fail
                        refine wp_region_held_drew (S := (fun W => W.cell? { block := x2.heap.size, off := 1 } = some (.slice AS al.length cS) ∧ W.cell? { block := bx, off := 1 } = some (.int .i64 num))) (by kernel_rfl) ⟨q1, n1⟩ (fun hHeld => ?_)
                        refine wpAnyH_take (i := 0) (v := ?_) (by simp only [List.getElem?_toArray, List.getElem?_cons_zero]; rfl) (by kernel_rfl) (by kernel_rfl) (by kernel_rfl) (by exact fun _ _ _ h => h) (Or.inl ⟨by rfl, ?_⟩) (by assumption) ?_
                        rotate_left
                        · intro w hSw; (try dsimp only at hSw); go_simp; (try with_reducible rfl)
                        try simp only [Act.put, List.setIfInBounds_toArray, List.set_cons_zero, List.set_cons_succ]
                        refine wpAnyH_take (i := 1) (v := ?_) (by simp only [List.getElem?_toArray, List.getElem?_cons_zero, List.getElem?_cons_succ]; rfl) (by kernel_rfl) (by kernel_rfl) (by kernel_rfl) (by exact fun _ _ _ h => h) (Or.inl ⟨by rfl, ?_⟩) (by assumption) ?_
                        rotate_left
                        · intro w hSw; (try dsimp only at hSw); go_simp; (try with_reducible rfl)
                        try simp only [Act.put, List.setIfInBounds_toArray, List.set_cons_zero, List.set_cons_succ]
                        refine wpAnyH_take (i := 2) (v := ?_) (by simp only [List.getElem?_toArray, List.getElem?_cons_zero, List.getElem?_cons_succ]; rfl) (by kernel_rfl) (by kernel_rfl) (by kernel_rfl) (by exact fun _ _ _ h => h) (Or.inl ⟨by rfl, ?_⟩) (by assumption) ?_
                        rotate_left
                        · intro w hSw; (try dsimp only at hSw); go_simp; (try with_reducible rfl)
                        try simp only [Act.put, List.setIfInBounds_toArray, List.set_cons_zero, List.set_cons_succ]
                        refine wpAnyH_take (i := 4) (v := ?_) (by simp only [List.getElem?_toArray, List.getElem?_cons_zero, List.getElem?_cons_succ]; rfl) (by kernel_rfl) (by kernel_rfl) (by kernel_rfl) (by exact fun _ _ _ h => h) (Or.inl ⟨by rfl, ?_⟩) (by assumption) ?_
                        rotate_left
                        · intro w hSw; (try dsimp only at hSw); go_simp; (try with_reducible rfl)
                        try simp only [Act.put, List.setIfInBounds_toArray, List.set_cons_zero, List.set_cons_succ]
                        refine wpAnyH_take (i := 5) (v := ?_) (by simp only [List.getElem?_toArray, List.getElem?_cons_zero, List.getElem?_cons_succ]; rfl) (by kernel_rfl) (by kernel_rfl) (by kernel_rfl) (by exact fun _ _ _ h => h) (Or.inl ⟨by rfl, ?_⟩) (by assumption) ?_
                        rotate_left
                        · intro w hSw; (try dsimp only at hSw); go_simp; (try with_reducible rfl)
                        try simp only [Act.put, List.setIfInBounds_toArray, List.set_cons_zero, List.set_cons_succ]
                        refine wpAnyH_take (i := 6) (v := ?_) (by simp only [List.getElem?_toArray, List.getElem?_cons_zero, List.getElem?_cons_succ]; rfl) (by kernel_rfl) (by kernel_rfl) (by kernel_rfl) (by exact fun _ _ _ h => h) (Or.inl ⟨by rfl, ?_⟩) (by assumption) ?_
                        rotate_left
                        · intro w hSw; (try dsimp only at hSw); go_simp; (try with_reducible rfl)
                        try simp only [Act.put, List.setIfInBounds_toArray, List.set_cons_zero, List.set_cons_succ]
                        refine wpAnyH_take (i := 7) (v := ?_) (by simp only [List.getElem?_toArray, List.getElem?_cons_zero, List.getElem?_cons_succ]; rfl) (by kernel_rfl) (by kernel_rfl) (by kernel_rfl) (by exact fun _ _ _ h => h) (Or.inl ⟨by rfl, ?_⟩) (by assumption) ?_
                        rotate_left
                        · intro w hSw; (try dsimp only at hSw); go_simp; (try with_reducible rfl)
                        try simp only [Act.put, List.setIfInBounds_toArray, List.set_cons_zero, List.set_cons_succ]
                        refine wpAnyH_take (i := 8) (v := ?_) (by simp only [List.getElem?_toArray, List.getElem?_cons_zero, List.getElem?_cons_succ]; rfl) (by kernel_rfl) (by kernel_rfl) (by kernel_rfl) (by exact fun _ _ _ h => h) (Or.inl ⟨by rfl, ?_⟩) (by assumption) ?_
                        rotate_left
                        · intro w hSw; (try dsimp only at hSw); go_simp; (try with_reducible rfl)
                        try simp only [Act.put, List.setIfInBounds_toArray, List.set_cons_zero, List.set_cons_succ]
                        refine wpAnyH_ready (rs := [3]) (by kernel_rfl) (by simp) ?_
                        refine AllReadyH.cons (by simp only [List.getElem?_toArray, List.getElem?_cons_zero, List.getElem?_cons_succ]; rfl) (fun K hK => ?_) AllReadyH.nil
                        go_simp
                        refine HF.out.mono ?_
                        rintro e y3 ⟨S', rfl, hA3, m3⟩
                        have M3 := Lib.hid (Duo.moveA (R' := fun W => C.At W x1.heap.size N1 n al al.length S') M2d.out (RefK.st _ _ _ _ _ _ _) hA3 (fun k hk => (C.foot hA3 k hk).2) m3)
                        have X3 := Lib.hid (X2d.out.moved m3.orL)
                        have q3 := M3.out.b.cells.2.1
                        have n3 := X3.out.cells.2.1
                        dsimp only at n3
                        clear hA3 m3
                        go_wp2_with fail
                        refine hK.out _ _ (⟨q3, n3⟩) (fun hHeld => ?_)
                        clear hK K
                        try simp only [Act.put, List.setIfInBounds_toArray, List.set_cons_zero, List.set_cons_succ]
                        refine wpAnyH_take (i := 9) (v := ?_) (by simp only [List.getElem?_toArray, List.getElem?_cons_zero, List.getElem?_cons_succ]; rfl) (by kernel_rfl) (by kernel_rfl) (by kernel_rfl) (by exact fun _ _ _ h => h) (Or.inl ⟨by rfl, ?_⟩) (by assumption) ?_
                        rotate_left
                        · intro w hSw; (try dsimp only at hSw); go_simp; (try with_reducible rfl)
                        try simp only [Act.put, List.setIfInBounds_toArray, List.set_cons_zero, List.set_cons_succ]
                        refine wpAnyH_take (i := 10) (v := ?_) (by simp only [List.getElem?_toArray, List.getElem?_cons_zero, List.getElem?_cons_succ]; rfl) (by kernel_rfl) (by kernel_rfl) (by kernel_rfl) (by exact fun _ _ _ h => h) (Or.inl ⟨by rfl, ?_⟩) (by assumption) ?_
                        rotate_left
                        · intro w hSw; (try dsimp only at hSw); go_simp; (try with_reducible rfl)
                        try simp only [Act.put, List.setIfInBounds_toArray, List.set_cons_zero, List.set_cons_succ]
                        refine wpAnyH_done (by kernel_rfl) ?_ _
                        go_wp2_with fail
                        go_meet
                        case rel => exact ⟨rfl, _, _, al, [], S', by unfold DuoD; rw [List.append_nil]; exact M3.out, by have h1 : al.length ≤ sf.length + rs.length := (by rw [← HAl.out, List.length_append, List.length_take]; omega); have := HSz.out; show al.length + 0 ≤ _; omega⟩
                      · by_cases k3 : kd = 3
                        · subst k3
                          obtain ⟨L, hL⟩ : ∃ L, sf.length + rs.length = L := ⟨_, rfl⟩
                          have hL2 : (sf ++ rs).length = L := by rw [List.length_append]; exact hL
                          have hL6 : L ≤ 120000 := by omega
                          have HL := Lib.hid hL
                          have HL2 := Lib.hid hL2
                          clear hL hL2
                          by_cases hcut : num < 0 ∨ (L : Int) < num
                          · have HN := Lib.hid (C.cutBad num HM1.out.a HNum.out (by rw [HL2.out]; exact hcut) (by rw [HL2.out]; omega))
                            go_wp2_with fail
                            refine HN.out.mono ?_
                            rintro e y1 ⟨S', rfl, hA1, m1⟩
                            have M2 := Lib.hid (Duo.moveA (R' := fun W => C.At W x1.heap.size N1 n (sf ++ rs) sf.length S') HM1.out (RefK.st _ _ _ _ _ _ _) hA1 (fun k hk => (C.foot hA1 k hk).2) m1)
                            have X2 := Lib.hid (HX.out.moved m1.orL)
                            have hAl := refAll_any M2.out.b (by rw [HL.out]; omega)
                            rw [HL.out] at hAl
                            have HAl := Lib.hid hAl
                            clear hA1 m1 HN hAl
                            go_wp2_with fail
                            refine HAl.out.mono ?_
                            rintro e y2 ⟨v, rfl, r2, b2⟩
                            obtain ⟨AA, cA, rfl, _, _, _, _⟩ := r2.rd
                            have M3 := Lib.hid (DuoD.below M2.out b2)
                            have X3 := Lib.hid (X2.out.below b2)
                            obtain ⟨p0, p1, p2⟩ := X3.out.cells
                            dsimp only at p0 p1 p2
                            clear r2 b2 HAl
                            have hsp : num < 0 ∨ (¬ num < 0 ∧ (L : Int) < num) := by omega
                            clear hcut
                            rcases hsp with h | ⟨h, h'⟩
                            all_goals
                              go_wp2_with fail
                              go_meet
                              case rel => exact ⟨rfl, vS, vR, sf, rs, S', M3.out, by have := HSz.out; omega⟩
                          · obtain ⟨m, rfl⟩ : ∃ m : Nat, num = (m : Int) := ⟨num.toNat, by omega⟩
                            have hml : m ≤ L := by omega
                            have hm0 : ¬ ((m : Int) < 0) := by omega
                            have hmL : ¬ ((L : Int) < (m : Int)) := by omega
                            have hN := C.cut_ m HM1.out.a (by rw [HL2.out]; exact hml) (by rw [HL2.out]; omega)
                            obtain ⟨al, hal2⟩ : ∃ al, (sf ++ rs).take m = al := ⟨_, rfl⟩
                            have hlen : al.length = m := by rw [← hal2, List.length_take, HL2.out]; omega
                            rw [hal2] at hN
                            have HN := Lib.hid hN
                            have HAl2 := Lib.hid hal2
                            have HLen := Lib.hid hlen
                            clear hN hal2 hlen hcut
                            go_wp2_with fail
                            refine HN.out.mono ?_
                            rintro e y1 ⟨S', rfl, hA1, m1⟩
                            have M2 := Lib.hid (Duo.moveA (R' := fun W => C.At W x1.heap.size N1 n al m S') HM1.out (RefK.st _ _ _ _ _ _ _) hA1 (fun k hk => (C.foot hA1 k hk).2) m1)
                            have X2 := Lib.hid (HX.out.moved m1.orL)
                            have hAl := refAll_any M2.out.b (by rw [HL.out]; omega)
                            rw [HL.out] at hAl
                            have HAl := Lib.hid hAl
                            clear hA1 m1 HN hAl
                            go_wp2_with fail
                            refine HAl.out.mono ?_
                            rintro e y2 ⟨v, rfl, r2, b2⟩
                            obtain ⟨AA, cA, rfl, hcA, _, _, hA0⟩ := r2.rd
                            have X3 := Lib.hid (X2.out.below b2)
                            obtain ⟨p0, p1, p2⟩ := X3.out.cells
                            dsimp only at p0 p1 p2
                            have hmc : (m : Int) ≤ (cA : Int) := by have := r2.len; omega
                            have hK2 := M2.out.b.below b2
                            have f1 := hK2.frozen 1
                            have f2 := hK2.frozen 2
                            have g1 := hK2.cells.2.1
                            have g2 := hK2.cells.2.2
                            have hrs := (r2.shrink hml (fun e => by have := hA0 e; have h2 := r2.len; rw [this.1] at h2; exact ⟨by simp at h2; omega, this.2⟩)).mono (B' := x2.heap.size) (Nat.le_trans M2.out.b.hB (Nat.le_of_lt M2.out.b.lt))
                            rw [HAl2.out] at hrs
                            have hob : (Value.slice AA m cA).ownBlock = (Value.slice AA L cA).ownBlock := by cases AA <;> rfl
                            have hput := hK2.put (vS' := .slice AA m cA) (sf' := al) (by rw [HLen.out]; exact hrs) (fun e => by have h3 := (r2.lt x2.heap.size (by rw [← hob]; exact e)).1; have := M2.out.b.lt; omega)
                            have oN : Only (footK x2.heap.size vS vR) y1 ((y2.setCell { block := x2.heap.size, off := 1 } (.slice AA m cA)).setCell { block := x2.heap.size, off := 2 } (.slice none 0 0)) :=
                              ((Only.mono (S := NoB) (Below.only b2) (fun x hx => hx.elim)).setCell (p := { block := x2.heap.size, off := 1 }) (.inl (.inl rfl)) _).setCell (p := { block := x2.heap.size, off := 2 }) (.inl (.inl rfl)) _
                            have hfm : ∀ x, footK x2.heap.size (.slice AA m cA) (.slice none 0 0) x → footK x2.heap.size vS vR x ∨ y1.heap.size ≤ x := fun x hx => by
                              rcases hx with h | h | h
                              · exact .inl (.inl h)
                              · exact .inr (r2.lt x (by rw [← hob]; exact h)).1
                              · cases h
                            have M4 := Lib.hid (Duo.moveB (R' := fun W => RefK W x2.heap.size x2.heap.size n (.slice AA m cA) (.slice none 0 0) al []) M2.out (C.st _ _ _ _ _ _) hput (fun k hk => (hput.foot_lt k hk).2) ⟨oN, hfm⟩)
                            clear r2 b2 HAl hA0 hK2 hrs hput oN hfm hcA hob
                            go_wp2_with fail
                            go_meet
                            case rel => exact ⟨rfl, .slice AA m cA, .slice none 0 0, al, [], S', by unfold DuoD; rw [List.append_nil, HLen.out]; exact M4.out, by rw [HLen.out]; have := HSz.out; have := HL.out; show m + 0 ≤ _; omega⟩
                        · go_wp2_with fail
                          go_meet
                          case rel => exact ⟨rfl, vS, vR, sf, rs, S, HM1.out, by have := HSz.out; omega⟩
                case rest =>
                  clear HM HX HM1 HFa HFb HR1 HCl HNum HSz HOk1 y0 y1 y2
                  obtain ⟨rfl, vS, vR, sf, rs, S, hM, hsz⟩ := hcut
                  obtain ⟨L, hL⟩ : ∃ L, (sf ++ rs).length = L := ⟨_, rfl⟩
                  have hL6 : L ≤ 124000 := by rw [← hL, List.length_append]; omega
                  have hin := C.inv hM.a
                  rw [hL] at hin
                  have hLn := hin.2.1
                  have hB := C.bytes_ hM.a (by omega)
                  rw [hL] at hB
                  have HB := Lib.hid hB
                  have HM := Lib.hid hM
                  have HL := Lib.hid hL
                  have HSz := Lib.hid hsz
                  clear hM hsz hL hin hB
                  go_wp2_with fail
                  refine HB.out.mono ?_
                  rintro e y1 ⟨v, rfl, r1, b1⟩
                  have hM1 := DuoD.below HM.out b1
                  obtain ⟨AS, cS, rfl, _, _, _, _⟩ := hM1.b.rS.rd
                  have HR1 := Lib.hid r1
                  obtain ⟨Ab, cb, rfl, _, rb, hbb, _⟩ := r1.rd
                  have hbb2 := fun ad e => (hbb ad e).2.1
                  have HRb := Lib.hid rb
                  have HM1 := Lib.hid hM1
                  have HB1 := Lib.hid b1
                  have hwd : IntKind.i64.wrap ((n : Int) - (L : Int)) = ((n - L : Nat) : Int) := by rw [IntWalk.i64_in _ (by omega)]; omega
                  have hB0 : Below y1.heap.size y1 y1.drew := (Below.refl _ _).drew
                  clear hM1 r1 rb hbb hbb2 b1 HB
                  go_wp2_with fail
                  refine wp_region_held_drew (S := (fun W => Below y1.heap.size y1 W)) (by kernel_rfl) hB0 (fun hHeld => ?_)
                  refine wpAnyH_take (i := 0) (v := ?_) (by simp only [List.getElem?_toArray, List.getElem?_cons_zero]; rfl) (by kernel_rfl) (by kernel_rfl) (by kernel_rfl) (by exact fun _ _ _ h => h) (Or.inl ⟨by rfl, ?_⟩) (by assumption) ?_
                  rotate_left
                  · intro w hSw; (try dsimp only at hSw); go_simp; (try with_reducible rfl)
                  try simp only [Act.put, List.setIfInBounds_toArray, List.set_cons_zero, List.set_cons_succ]
                  refine wpAnyH_take (i := 1) (v := ?_) (by simp only [List.getElem?_toArray, List.getElem?_cons_zero, List.getElem?_cons_succ]; rfl) (by kernel_rfl) (by kernel_rfl) (by kernel_rfl) (by exact fun _ _ _ h => h) (Or.inl ⟨by rfl, ?_⟩) (by assumption) ?_
                  rotate_left
                  · intro w hSw; (try dsimp only at hSw); go_simp; (try with_reducible rfl)
                  try simp only [Act.put, List.setIfInBounds_toArray, List.set_cons_zero, List.set_cons_succ]
                  refine wpAnyH_take (i := 2) (v := ?_) (by simp only [List.getElem?_toArray, List.getElem?_cons_zero, List.getElem?_cons_succ]; rfl) (by kernel_rfl) (by kernel_rfl) (by kernel_rfl) (by exact fun _ _ _ h => h) (Or.inl ⟨by rfl, ?_⟩) (by assumption) ?_
                  rotate_left
                  · intro w hSw; (try dsimp only at hSw); go_simp; (try with_reducible rfl)
                  try simp only [Act.put, List.setIfInBounds_toArray, List.set_cons_zero, List.set_cons_succ]
                  refine wpAnyH_take (i := 3) (v := ?_) (by simp only [List.getElem?_toArray, List.getElem?_cons_zero, List.getElem?_cons_succ]; rfl) (by kernel_rfl) (by kernel_rfl) (by kernel_rfl) (by exact fun _ _ _ h => h) (Or.inl ⟨by rfl, ?_⟩) (by assumption) ?_
                  rotate_left
                  · intro w hSw; (try dsimp only at hSw); go_simp; (try with_reducible rfl)
                  try simp only [Act.put, List.setIfInBounds_toArray, List.set_cons_zero, List.set_cons_succ]
                  refine wpAnyH_take (i := 4) (v := ?_) (by simp only [List.getElem?_toArray, List.getElem?_cons_zero, List.getElem?_cons_succ]; rfl) (by kernel_rfl) (by kernel_rfl) (by kernel_rfl) (by exact fun _ _ _ h => h) (Or.inl ⟨by rfl, ?_⟩) (by assumption) ?_
                  rotate_left
                  · intro w hSw; (try dsimp only at hSw); have hcx := conv_rd (l := L) (c := cb) (HRb.out.below (Nat.le_refl _) hSw) HL.out; go_simp; (try with_reducible rfl)
                  try simp only [Act.put, List.setIfInBounds_toArray, List.set_cons_zero, List.set_cons_succ]
                  refine wpAnyH_take (i := 5) (v := ?_) (by simp only [List.getElem?_toArray, List.getElem?_cons_zero, List.getElem?_cons_succ]; rfl) (by kernel_rfl) (by kernel_rfl) (by kernel_rfl) (by exact fun _ _ _ h => h) (Or.inl ⟨by rfl, ?_⟩) (by assumption) ?_
                  rotate_left
                  · intro w hSw; (try dsimp only at hSw); go_simp; (try with_reducible rfl)
                  try simp only [Act.put, List.setIfInBounds_toArray, List.set_cons_zero, List.set_cons_succ]
                  refine wpAnyH_ready (rs := [6]) (by kernel_rfl) (by simp) ?_
                  refine AllReadyH.cons (by simp only [List.getElem?_toArray, List.getElem?_cons_zero, List.getElem?_cons_succ]; rfl) (fun K hK => ?_) AllReadyH.nil
                  go_simp
                  have hAl := refAll_any (HM1.out.b.below hB0) (by have := HL.out; rw [List.length_append] at this; omega)
                  rw [show sf.length + rs.length = L from by have := HL.out; rwa [List.length_append] at this] at hAl
                  refine hAl.mono ?_
                  rintro e z1' ⟨v2, rfl, r2, b2⟩
                  obtain ⟨A2, c2, rfl, _, rd2, _, _⟩ := r2.rd
                  have hcv := conv_rd (l := L) (c := c2) rd2 HL.out
                  have hB1 := hB0.trans (b2.mono hB0.size)
                  clear hAl r2 rd2 b2
                  go_wp2_with fail
                  refine hK.out _ _ (hB1) (fun hHeld => ?_)
                  clear hK K
                  try simp only [Act.put, List.setIfInBounds_toArray, List.set_cons_zero, List.set_cons_succ]
                  refine wpAnyH_ready (rs := [7]) (by kernel_rfl) (by simp) ?_
                  refine AllReadyH.cons (by simp only [List.getElem?_toArray, List.getElem?_cons_zero, List.getElem?_cons_succ]; rfl) (fun K hK => ?_) AllReadyH.nil
                  go_simp
                  refine hK.out _ _ (hB1) (fun hHeld => ?_)
                  clear hK K
                  try simp only [Act.put, List.setIfInBounds_toArray, List.set_cons_zero, List.set_cons_succ]
                  refine wpAnyH_take (i := 8) (v := ?_) (by simp only [List.getElem?_toArray, List.getElem?_cons_zero, List.getElem?_cons_succ]; rfl) (by kernel_rfl) (by kernel_rfl) (by kernel_rfl) (by exact fun _ _ _ h => h) (Or.inl ⟨by rfl, ?_⟩) (by assumption) ?_
                  rotate_left
                  · intro w hSw; (try dsimp only at hSw); go_simp; (try with_reducible rfl)
                  try simp only [Act.put, List.setIfInBounds_toArray, List.set_cons_zero, List.set_cons_succ]
                  refine wpAnyH_take (i := 9) (v := ?_) (by simp only [List.getElem?_toArray, List.getElem?_cons_zero, List.getElem?_cons_succ]; rfl) (by kernel_rfl) (by kernel_rfl) (by kernel_rfl) (by exact fun _ _ _ h => h) (Or.inl ⟨by rfl, ?_⟩) (by assumption) ?_
                  rotate_left
                  · intro w hSw; (try dsimp only at hSw); go_simp; (try with_reducible rfl)
                  try simp only [Act.put, List.setIfInBounds_toArray, List.set_cons_zero, List.set_cons_succ]
                  refine wpAnyH_take (i := 10) (v := ?_) (by simp only [List.getElem?_toArray, List.getElem?_cons_zero, List.getElem?_cons_succ]; rfl) (by kernel_rfl) (by kernel_rfl) (by kernel_rfl) (by exact fun _ _ _ h => h) (Or.inl ⟨by rfl, ?_⟩) (by assumption) ?_
                  rotate_left
                  · intro w hSw; (try dsimp only at hSw); go_simp; (try with_reducible rfl)
                  try simp only [Act.put, List.setIfInBounds_toArray, List.set_cons_zero, List.set_cons_succ]
                  refine wpAnyH_take (i := 11) (v := ?_) (by simp only [List.getElem?_toArray, List.getElem?_cons_zero, List.getElem?_cons_succ]; rfl) (by kernel_rfl) (by kernel_rfl) (by kernel_rfl) (by exact fun _ _ _ h => h) (Or.inl ⟨by rfl, ?_⟩) (by assumption) ?_
                  rotate_left
                  · intro w hSw; (try dsimp only at hSw); go_simp; (try with_reducible rfl)
                  try simp only [Act.put, List.setIfInBounds_toArray, List.set_cons_zero, List.set_cons_succ]
                  refine wpAnyH_take (i := 13) (v := ?_) (by simp only [List.getElem?_toArray, List.getElem?_cons_zero, List.getElem?_cons_succ]; rfl) (by kernel_rfl) (by kernel_rfl) (by kernel_rfl) (by exact fun _ _ _ h => h) (Or.inl ⟨by rfl, ?_⟩) (by assumption) ?_
                  rotate_left
                  · intro w hSw; (try dsimp only at hSw); go_simp; (try with_reducible rfl)
                  try simp only [Act.put, List.setIfInBounds_toArray, List.set_cons_zero, List.set_cons_succ]
                  refine wpAnyH_take (i := 14) (v := ?_) (by simp only [List.getElem?_toArray, List.getElem?_cons_zero, List.getElem?_cons_succ]; rfl) (by kernel_rfl) (by kernel_rfl) (by kernel_rfl) (by exact fun _ _ _ h => h) (Or.inl ⟨by rfl, ?_⟩) (by assumption) ?_
                  rotate_left
                  · intro w hSw; (try dsimp only at hSw); go_simp; (try with_reducible rfl)
                  try simp only [Act.put, List.setIfInBounds_toArray, List.set_cons_zero, List.set_cons_succ]
                  refine wpAnyH_ready (rs := [12]) (by kernel_rfl) (by simp) ?_
                  refine AllReadyH.cons (by simp only [List.getElem?_toArray, List.getElem?_cons_zero, List.getElem?_cons_succ]; rfl) (fun K hK => ?_) AllReadyH.nil
                  go_simp
                  have hLe := C.len_ (C.below HM1.out.a hB1)
                  rw [HL.out] at hLe
                  refine hLe.mono ?_
                  rintro e z2' ⟨rfl, b2⟩
                  have hB2 := hB1.trans (b2.mono hB1.size)
                  clear hLe hcv b2
                  go_wp2_with fail
                  refine hK.out _ _ (hB2) (fun hHeld => ?_)
                  clear hK K
                  try simp only [Act.put, List.setIfInBounds_toArray, List.set_cons_zero, List.set_cons_succ]
                  refine wpAnyH_take (i := 15) (v := ?_) (by simp only [List.getElem?_toArray, List.getElem?_cons_zero, List.getElem?_cons_succ]; rfl) (by kernel_rfl) (by kernel_rfl) (by kernel_rfl) (by exact fun _ _ _ h => h) (Or.inl ⟨by rfl, ?_⟩) (by assumption) ?_
                  rotate_left
                  · intro w hSw; (try dsimp only at hSw); go_simp; (try with_reducible rfl)
                  try simp only [Act.put, List.setIfInBounds_toArray, List.set_cons_zero, List.set_cons_succ]
                  refine wpAnyH_take (i := 16) (v := ?_) (by simp only [List.getElem?_toArray, List.getElem?_cons_zero, List.getElem?_cons_succ]; rfl) (by kernel_rfl) (by kernel_rfl) (by kernel_rfl) (by exact fun _ _ _ h => h) (Or.inl ⟨by rfl, ?_⟩) (by assumption) ?_
                  rotate_left
                  · intro w hSw; (try dsimp only at hSw); go_simp; (try with_reducible rfl)
                  try simp only [Act.put, List.setIfInBounds_toArray, List.set_cons_zero, List.set_cons_succ]
                  refine wpAnyH_take (i := 17) (v := ?_) (by simp only [List.getElem?_toArray, List.getElem?_cons_zero, List.getElem?_cons_succ]; rfl) (by kernel_rfl) (by kernel_rfl) (by kernel_rfl) (by exact fun _ _ _ h => h) (Or.inl ⟨by rfl, ?_⟩) (by assumption) ?_
                  rotate_left
                  · intro w hSw; (try dsimp only at hSw); go_simp; (try with_reducible rfl)
                  try simp only [Act.put, List.setIfInBounds_toArray, List.set_cons_zero, List.set_cons_succ]
                  refine wpAnyH_take (i := 18) (v := ?_) (by simp only [List.getElem?_toArray, List.getElem?_cons_zero, List.getElem?_cons_succ]; rfl) (by kernel_rfl) (by kernel_rfl) (by kernel_rfl) (by exact fun _ _ _ h => h) (Or.inl ⟨by rfl, ?_⟩) (by assumption) ?_
                  rotate_left
                  · intro w hSw; (try dsimp only at hSw); go_simp; (try with_reducible rfl)
                  try simp only [Act.put, List.setIfInBounds_toArray, List.set_cons_zero, List.set_cons_succ]
                  refine wpAnyH_take (i := 20) (v := ?_) (by simp only [List.getElem?_toArray, List.getElem?_cons_zero, List.getElem?_cons_succ]; rfl) (by kernel_rfl) (by kernel_rfl) (by kernel_rfl) (by exact fun _ _ _ h => h) (Or.inl ⟨by rfl, ?_⟩) (by assumption) ?_
                  rotate_left
                  · intro w hSw; (try dsimp only at hSw); go_simp; (try with_reducible rfl)
                  try simp only [Act.put, List.setIfInBounds_toArray, List.set_cons_zero, List.set_cons_succ]
                  refine wpAnyH_take (i := 21) (v := ?_) (by simp only [List.getElem?_toArray, List.getElem?_cons_zero, List.getElem?_cons_succ]; rfl) (by kernel_rfl) (by kernel_rfl) (by kernel_rfl) (by exact fun _ _ _ h => h) (Or.inl ⟨by rfl, ?_⟩) (by assumption) ?_
                  rotate_left
                  · intro w hSw; (try dsimp only at hSw); go_simp; (try with_reducible rfl)
                  try simp only [Act.put, List.setIfInBounds_toArray, List.set_cons_zero, List.set_cons_succ]
                  refine wpAnyH_take (i := 22) (v := ?_) (by simp only [List.getElem?_toArray, List.getElem?_cons_zero, List.getElem?_cons_succ]; rfl) (by kernel_rfl) (by kernel_rfl) (by kernel_rfl) (by exact fun _ _ _ h => h) (Or.inl ⟨by rfl, ?_⟩) (by assumption) ?_
                  rotate_left
                  · intro w hSw; (try dsimp only at hSw); go_simp; (try with_reducible rfl)
                  try simp only [Act.put, List.setIfInBounds_toArray, List.set_cons_zero, List.set_cons_succ]
                  refine wpAnyH_take (i := 23) (v := ?_) (by simp only [List.getElem?_toArray, List.getElem?_cons_zero, List.getElem?_cons_succ]; rfl) (by kernel_rfl) (by kernel_rfl) (by kernel_rfl) (by exact fun _ _ _ h => h) (Or.inl ⟨by rfl, ?_⟩) (by assumption) ?_
                  rotate_left
                  · intro w hSw; (try dsimp only at hSw); have hq := (HM1.out.b.below hSw).cells.2.1; go_simp; (try with_reducible rfl)
                  try simp only [Act.put, List.setIfInBounds_toArray, List.set_cons_zero, List.set_cons_succ]
                  refine wpAnyH_take (i := 24) (v := ?_) (by simp only [List.getElem?_toArray, List.getElem?_cons_zero, List.getElem?_cons_succ]; rfl) (by kernel_rfl) (by kernel_rfl) (by kernel_rfl) (by exact fun _ _ _ h => h) (Or.inl ⟨by rfl, ?_⟩) (by assumption) ?_
                  rotate_left
                  · intro w hSw; (try dsimp only at hSw); go_simp; (try with_reducible rfl)
                  try simp only [Act.put, List.setIfInBounds_toArray, List.set_cons_zero, List.set_cons_succ]
                  refine wpAnyH_ready (rs := [19]) (by kernel_rfl) (by simp) ?_
                  refine AllReadyH.cons (by simp only [List.getElem?_toArray, List.getElem?_cons_zero, List.getElem?_cons_succ]; rfl) (fun K hK => ?_) AllReadyH.nil
                  go_simp
                  refine (C.safe_ (C.below HM1.out.a hB2)).mono ?_
                  rintro e z3' ⟨rfl, b2⟩
                  have hB3 := hB2.trans (b2.mono hB2.size)
                  clear b2
                  go_wp2_with fail
                  refine hK.out _ _ (hB3) (fun hHeld => ?_)
                  clear hK K
                  try simp only [Act.put, List.setIfInBounds_toArray, List.set_cons_zero, List.set_cons_succ]
                  refine wpAnyH_take (i := 25) (v := ?_) (by simp only [List.getElem?_toArray, List.getElem?_cons_zero, List.getElem?_cons_succ]; rfl) (by kernel_rfl) (by kernel_rfl) (by kernel_rfl) (by exact fun _ _ _ h => h) (Or.inl ⟨by rfl, ?_⟩) (by assumption) ?_
                  rotate_left
                  · intro w hSw; (try dsimp only at hSw); go_simp; (try with_reducible rfl)
                  try simp only [Act.put, List.setIfInBounds_toArray, List.set_cons_zero, List.set_cons_succ]
                  refine wpAnyH_take (i := 26) (v := ?_) (by simp only [List.getElem?_toArray, List.getElem?_cons_zero, List.getElem?_cons_succ]; rfl) (by kernel_rfl) (by kernel_rfl) (by kernel_rfl) (by exact fun _ _ _ h => h) (Or.inl ⟨by rfl, ?_⟩) (by assumption) ?_
                  rotate_left
                  · intro w hSw; (try dsimp only at hSw); go_simp; (try with_reducible rfl)
                  try simp only [Act.put, List.setIfInBounds_toArray, List.set_cons_zero, List.set_cons_succ]
                  refine wpAnyH_take (i := 27) (v := ?_) (by simp only [List.getElem?_toArray, List.getElem?_cons_zero, List.getElem?_cons_succ]; rfl) (by kernel_rfl) (by kernel_rfl) (by kernel_rfl) (by exact fun _ _ _ h => h) (Or.inl ⟨by rfl, ?_⟩) (by assumption) ?_
                  rotate_left
                  · intro w hSw; (try dsimp only at hSw); go_simp; (try with_reducible rfl)
                  try simp only [Act.put, List.setIfInBounds_toArray, List.set_cons_zero, List.set_cons_succ]
                  refine wpAnyH_take (i := 28) (v := ?_) (by simp only [List.getElem?_toArray, List.getElem?_cons_zero, List.getElem?_cons_succ]; rfl) (by kernel_rfl) (by kernel_rfl) (by kernel_rfl) (by exact fun _ _ _ h => h) (Or.inl ⟨by rfl, ?_⟩) (by assumption) ?_
                  rotate_left
                  · intro w hSw; (try dsimp only at hSw); go_simp; (try with_reducible rfl)
                  try simp only [Act.put, List.setIfInBounds_toArray, List.set_cons_zero, List.set_cons_succ]
                  refine wpAnyH_take (i := 30) (v := ?_) (by simp only [List.getElem?_toArray, List.getElem?_cons_zero, List.getElem?_cons_succ]; rfl) (by kernel_rfl) (by kernel_rfl) (by kernel_rfl) (by exact fun _ _ _ h => h) (Or.inl ⟨by rfl, ?_⟩) (by assumption) ?_
                  rotate_left
                  · intro w hSw; (try dsimp only at hSw); go_simp; (try with_reducible rfl)
                  try simp only [Act.put, List.setIfInBounds_toArray, List.set_cons_zero, List.set_cons_succ]
                  refine wpAnyH_take (i := 31) (v := ?_) (by simp only [List.getElem?_toArray, List.getElem?_cons_zero, List.getElem?_cons_succ]; rfl) (by kernel_rfl) (by kernel_rfl) (by kernel_rfl) (by exact fun _ _ _ h => h) (Or.inl ⟨by rfl, ?_⟩) (by assumption) ?_
                  rotate_left
                  · intro w hSw; (try dsimp only at hSw); go_simp; (try with_reducible rfl)
                  try simp only [Act.put, List.setIfInBounds_toArray, List.set_cons_zero, List.set_cons_succ]
                  refine wpAnyH_take (i := 32) (v := ?_) (by simp only [List.getElem?_toArray, List.getElem?_cons_zero, List.getElem?_cons_succ]; rfl) (by kernel_rfl) (by kernel_rfl) (by kernel_rfl) (by exact fun _ _ _ h => h) (Or.inl ⟨by rfl, ?_⟩) (by assumption) ?_
                  rotate_left
                  · intro w hSw; (try dsimp only at hSw); go_simp; (try with_reducible rfl)
                  try simp only [Act.put, List.setIfInBounds_toArray, List.set_cons_zero, List.set_cons_succ]
                  refine wpAnyH_take (i := 33) (v := ?_) (by simp only [List.getElem?_toArray, List.getElem?_cons_zero, List.getElem?_cons_succ]; rfl) (by kernel_rfl) (by kernel_rfl) (by kernel_rfl) (by exact fun _ _ _ h => h) (Or.inl ⟨by rfl, ?_⟩) (by assumption) ?_
                  rotate_left
                  · intro w hSw; (try dsimp only at hSw); go_simp; (try with_reducible rfl)
                  try simp only [Act.put, List.setIfInBounds_toArray, List.set_cons_zero, List.set_cons_succ]
                  refine wpAnyH_ready (rs := [29]) (by kernel_rfl) (by simp) ?_
                  refine AllReadyH.cons (by simp only [List.getElem?_toArray, List.getElem?_cons_zero, List.getElem?_cons_succ]; rfl) (fun K hK => ?_) AllReadyH.nil
                  go_simp
                  have hLf := C.left_ (C.below HM1.out.a hB3)
                  rw [HL.out] at hLf
                  refine hLf.mono ?_
                  rintro e y5 ⟨rfl, b2⟩
                  have hB4 := hB3.trans (b2.mono hB3.size)
                  clear hLf b2
                  go_wp2_with fail
                  refine hK.out _ _ (hB4) (fun hHeld => ?_)
                  clear hK K
                  try simp only [Act.put, List.setIfInBounds_toArray, List.set_cons_zero, List.set_cons_succ]
                  refine wpAnyH_take (i := 34) (v := ?_) (by simp only [List.getElem?_toArray, List.getElem?_cons_zero, List.getElem?_cons_succ]; rfl) (by kernel_rfl) (by kernel_rfl) (by kernel_rfl) (by exact fun _ _ _ h => h) (Or.inl ⟨by rfl, ?_⟩) (by assumption) ?_
                  rotate_left
                  · intro w hSw; (try dsimp only at hSw); go_simp; (try with_reducible rfl)
                  try simp only [Act.put, List.setIfInBounds_toArray, List.set_cons_zero, List.set_cons_succ]
                  refine wpAnyH_take (i := 35) (v := ?_) (by simp only [List.getElem?_toArray, List.getElem?_cons_zero, List.getElem?_cons_succ]; rfl) (by kernel_rfl) (by kernel_rfl) (by kernel_rfl) (by exact fun _ _ _ h => h) (Or.inl ⟨by rfl, ?_⟩) (by assumption) ?_
                  rotate_left
                  · intro w hSw; (try dsimp only at hSw); go_simp; (try with_reducible rfl)
                  try simp only [Act.put, List.setIfInBounds_toArray, List.set_cons_zero, List.set_cons_succ]
                  refine wpAnyH_done (by kernel_rfl) ?_ _
                  have hM5 := DuoD.below HM1.out hB4
                  have HB4 := Lib.hid hB4
                  have hr5 := HR1.out.only (S := NoB) (Below.only (hB4.mono (Nat.le_refl _))) (fun _ _ h => h)
                  have HR5 := Lib.hid hr5
                  have HM5 := Lib.hid hM5
                  clear hM5 hB4 hB3 hB2 hB1 hB0 hr5
                  obtain ⟨w5, hw5⟩ : ∃ x, x = y5 := ⟨_, rfl⟩
                  go_wp2_with fail
                  subst hw5
                  go_loopw [16] (fun i wr => ∃ (m : Nat) (bs' : List UInt8), m ≤ L ∧ i = .int .i64 (m : Nat) ∧ layB.Row 5 wr wc.heap.size (.slice Ab L cb) L bs' ∧ Only (fun x => (Value.slice Ab L cb).ownBlock = some x) w5 wr) (fun i _ => L - (intOf i).toNat)
                  case atStart => exact ⟨0, _, Nat.zero_le _, rfl, HR5.out, Only.refl _ _⟩
                  case round =>
                    clear HR5
                    obtain ⟨m, bs', hm, rfl, hrow, hon⟩ := hrel
                    by_cases hltm : m < L
                    · have hlen := hrow.len
                      obtain ⟨A', c', e, _, hrd, hbb, _⟩ := hrow.rd
                      have e1 : Ab = A' := by injection e
                      subst e1
                      obtain ⟨ad, rfl, hblk, hc⟩ := layB_at hrd (k := m) (by omega)
                      have had := (hbb ad rfl).1
                      obtain ⟨g, hg⟩ : ∃ g, ad.block = g := ⟨_, rfl⟩
                      rw [hg] at had
                      subst had
                      clear hbb hg e hrd
                      obtain ⟨x, hx⟩ : ∃ x, bs'.getD m default = x := ⟨_, rfl⟩
                      rw [hx] at hc
                      have hfz := World.ownsRow.frozenAt hrow m
                      have hset := layB_set (k := m) hrow (x + 1)
                      have hc2 : wr.cell? { block := g, off := m } = some (.int .u8 (x.toNat : Int)) := by
                        have ea : (⟨g, 0, none⟩ : Addr).add m = ⟨g, m, none⟩ := by
                          unfold Addr.add
                          split
                          · next h => rw [h]
                          · simp
                        rwa [ea] at hc
                      have hmi : (m : Int) < (L : Int) := by omega
                      have HSet := Lib.hid hset
                      have HOn := Lib.hid hon
                      clear hset hon hrow hx hc hlen
                      have ew : ((x.toNat : Int) + 1) % 256 = (((x + 1 : UInt8).toNat : Nat) : Int) := by
                        rw [UInt8.toNat_add]
                        show ((x.toNat : Int) + 1) % 256 = (((x.toNat + 1) % 256 : Nat) : Int)
                        omega
                      have HEw := Lib.hid ew
                      clear ew
                      go_wp2_with fail
                      rw [HEw.out]
                      exact ⟨⟨m + 1, bs'.set m (x + 1), by omega, by go_num, HSet.out.1, HOn.out.trans HSet.out.2 (fun y hy => .inl (by rw [hy]; rfl))⟩, by simp [intOf]; omega⟩
                    · obtain rfl : m = L := by omega
                      have hlt3 := fun k hk => (hrow.lt k hk).1
                      have hws := HM.out.bel.size
                      have hM6 : DuoD C w wr x1.heap.size N1 n x2.heap.size x2.heap.size (.slice AS sf.length cS) vR sf rs S :=
                        ⟨C.only HM5.out.a hon (fun k hk e => by have := (HM.out.fa k hk).2; have := hlt3 k e; omega), HM5.out.b.only hon (fun k hk e => by have := (HM.out.fb k hk).2; have := hlt3 k e; omega),
                         fun k hk => ⟨(HM5.out.fa k hk).1, Nat.lt_of_lt_of_le (HM5.out.fa k hk).2 hon.size⟩, fun k hk => ⟨(HM5.out.fb k hk).1, Nat.lt_of_lt_of_le (HM5.out.fb k hk).2 hon.size⟩, HM5.out.ap, HM5.out.bel.trans (hon.below HM5.out.bel.size (fun x hx => Nat.le_trans hws (hlt3 x hx)))⟩
                      have HM6 := Lib.hid hM6
                      clear hM6 hlt3 hrow hon
                      go_wp2_with fail
                      go_roundw
                      case rel => exact ⟨k + 1, _, vR, sf, rs, S, by go_num, by omega, HM6.out, HSz.out⟩
                      case measure => simp [intOf]; omega
        · obtain rfl : k = z1.length := by omega
          go_wp2_with fail
          go_ret
          exact ⟨rfl, hbw⟩

set_option maxRecDepth 100000 in
theorem lifted (os : Os) (started : os.Started) (H : Type) (enc : TypeId × Value → H) :
    ReturnsInHanded {} Try.checked os 3 .any (Rows.diskActsSpec.pre6 enc Try.prog Try.f3 Rows.diskActsRow.domain false) (Rows.diskActsSpec.post enc Try.prog Try.f3 false true false false) := by
  refine returnsInHanded_of_change (C := Try.checked) own started (by kernel_rfl) Try.func3
    (ChangeSpec.witness6 (enc := enc) (C := Try.checked) false ⟨#[], #[.int .i64 0, .slice none 0 0], []⟩ 8 (by kernel_rfl) (by kernel_rfl) (by kernel_rfl) (by kernel_rfl)) ?_
  intro W base args ds gs before hval0 hW hcnd _
  have hval : ∀ (j : Nat) t v, Try.f3.params[j]? = some t → args[j]? = some v → Value.okWide Try.prog W .any base t v := hval0
  have hW' := hW
  obtain ⟨p, q, hA0, hV, rfl, hfz, hnd⟩ := hW
  have hA : DataW.TrodAll enc Try.prog W 0 (fun _ => true) true Try.f3.params.toList args.toList ds p := hA0
  rw [Try.params3] at hA hval
  obtain ⟨v0, vs0, d0, ds0, p0, q0, hargs, rfl, rfl, h0, r0⟩ := trodAll_cons hA
  obtain ⟨v1, vs1, d1, ds1, p1, q1, rfl, rfl, rfl, h1, r1⟩ := trodAll_cons r0
  obtain ⟨rfl, rfl, rfl⟩ := trodAll_nil r1
  obtain rfl : args = #[v0, v1] := by cases args; simp_all
  obtain ⟨rfl, rfl⟩ := trodVars_none hV
  obtain ⟨a0, rfl, rfl, rfl, w0⟩ := open_int Try.underlying3 (hval 0 3 v0 rfl rfl) h0
  obtain ⟨a1, l1, c1, rfl⟩ := okWide_slice Try.underlying22 (hval 1 22 v1 rfl rfl)
  have tk1 := h1
  have lt1 : ∀ x ∈ p1, x.block < W.heap.size := by obtain ⟨m, hm⟩ := tk1; exact DataW.trod_lt m _ _ _ hm
  obtain ⟨z1, w1⟩ : ∃ zs, SlcK W a1 l1 c1 zs := by
    obtain ⟨fuel, hf⟩ := h1
    exact open_acts7 (by simpa [Value.cells] using hf)
  clear hA0 hval0
  refine (walk a0 a1 l1 c1 z1 w0 W w1).mono fun e W' ⟨he, bel⟩ => ?_
  subst he
  exact ⟨_, rfl, _, _, _, [], _, [], hW', trodAll_mk1 (shut_bool Try.underlying4 _), (trodAll_cons_mk (shut_int Try.underlying3 w0) (trodAll_cons_mk (Below.trod laidOut (by kernel_rfl) (of_decide_eq_true (by kernel_rfl)) tk1 bel lt1) trodAll_mk0)), rfl, bel.frame _, fun h => by cases h⟩

theorem over : Rows.diskActsRow.holds Try.pinned (OpenSpec.ofChange Rows.diskActsSpec) :=
  OpenClaim.holds_of_wide 3 Try.f3 rfl rfl rfl rfl rfl rfl rfl ⟨rfl, rfl, rfl, rfl, rfl⟩ rfl rfl rfl rfl rfl (by kernel_rfl) Try.func3 (by kernel_rfl)
    (of_decide_eq_true (by kernel_rfl)) (by unfold Func.isWrapper; first | (rw [if_pos (by decide +kernel)]; kernel_rfl) | (rw [if_neg (by decide +kernel)]; exact ⟨rfl, rfl⟩))
    (fun os started H enc _ => lifted os started H enc)
theorem proved : Rows.DiskActsSaid := over
end Go.Proofs.Ytebebbehiegleaa.diskActs
