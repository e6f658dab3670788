/- Right lists have their bytes, and are read back; any bytes begin with a list or are refused: at every input of the tied card, with no condition beyond it. -/
import Derived.Test.YtgacphpkgaobkaaDoorDoor
import Derived.Test.YtgacphpkgaobkaaDoorPropTakes
import Derived.Test.YtgacphpkgaobkaaDoorPost
namespace Go.Proofs.YtgacphpkgaobkaaDoor.propsTakes
open Go.ChangeShapes Go.WideShapes Go.ChangeAt Go.RowKit
open Go.ChangeMaps (open_string shut_string)
set_option linter.unusedVariables false

set_option maxHeartbeats 40000000 in
set_option maxRecDepth 100000 in
theorem walk (a0 : Option Addr) (l0 c0 : Nat) (z0 : List Prop4) (a1 : Option Addr) (l1 c1 : Nat) (z1 : List UInt8)  (w : World) (w0 : SlcP w a0 l0 c0 z0) (w1 : SlcB w a1 l1 c1 z1) (hT : Tabs w) :
    Calls Tryd.prog 4 #[.slice a0 l0 c0, .slice a1 l1 c1] w fun e w' => e = .returned (.bool true) ∧ Below w.heap.size w w' := by
  obtain ⟨rfl, hlc0, hn0, hrd0, hin0⟩ := w0
  obtain ⟨rfl, hlc1, hrd1⟩ := w1
  have HT := Lib.hid hT
  have HR0 := Lib.hid hrd0
  have HR1 := Lib.hid hrd1
  have HF0 := Lib.hid (fair_of hin0)
  clear hT hrd0 hrd1 hin0
  go_enter Tryd.func4, Tryd.ntmps4
  go_wp2_with fail
  refine (awake_any _ HT.out).mono ?_
  rintro e x1 ⟨rfl, b1⟩
  have q0 := small_any a0 c0 z0 x1 (HR0.out.below (Nat.le_refl _) b1) hlc0
  cases hs0 : smallP z0 with
  | false =>
    rw [hs0] at q0
    have C0 := Lib.hid q0
    clear q0 hs0
    go_wp2_with fail
    refine C0.out.mono ?_
    rintro e x2 ⟨rfl, rfl⟩
    go_wp2_with fail
    refine (awake_any _ (Utf8Tabs_below HT.out b1)).mono ?_
    rintro e y9 ⟨rfl, d9⟩
    go_wp2_with fail
    go_ret
    exact ⟨rfl, btV b1 d9⟩
  | true =>
    rw [hs0] at q0
    have C0 := Lib.hid q0
    have HS0 := Lib.hid hs0
    clear q0 hs0
    have hl0 := (small_mem HS0.out).1
    have HK0 : Hid (∀ k, k < z0.length → (z0.getD k Prop4.no).1.size ≤ 1000000) := Lib.hid (fun k hk => (small_big HS0.out _ (by rw [List.getD_eq_getElem?_getD, List.getElem?_eq_getElem hk]; exact List.getElem_mem hk)).1)
    go_wp2_with fail
    refine C0.out.mono ?_
    rintro e x2 ⟨rfl, rfl⟩
    by_cases hbig : 2000 < z1.length
    · have hbig2 : (2000 : Int) < (z1.length : Int) := by omega
      go_wp2_with fail
      refine (awake_any _ (Utf8Tabs_below HT.out b1)).mono ?_
      rintro e y9 ⟨rfl, d9⟩
      go_wp2_with fail
      go_ret
      exact ⟨rfl, btV b1 d9⟩
    · have hl1 : z1.length ≤ 2000 := by omega
      have hbig2 : ¬ ((2000 : Int) < (z1.length : Int)) := by omega
      clear hbig
      go_wp2_with (at_builtin; refine wpList_append_bytes rfl _ _ rfl x1.heap.size _ 0 [] rfl (lit0 x1) a1 c1 z1 rfl (HR1.out.below (Nat.le_refl _) (b1.alloc b1.size _)) (by omega) (by simp) ?_)
      intro v4 w4 hr4 d4
      clear hbig2
      have D4 : Below x1.heap.size x1 w4 := ((Below.refl x1.heap.size x1).alloc (Nat.le_refl _) _).trans d4
      have B4 := btV b1 D4
      obtain ⟨A4, c4, rfl, hrd4, hc4⟩ := hr4.rd
      have cT := propsTake_any A4 c4 z1 w4 hrd4 hc4 (by omega) (Utf8Tabs_below HT.out B4)
      obtain ⟨⟨e0, m0, x⟩, htk⟩ : ∃ p, takeP z1 = p := ⟨_, rfl⟩
      have hle := takeP_le z1
      rw [htk] at cT hle
      dsimp only at hle
      have CT := Lib.hid cT
      have HTk := Lib.hid htk
      clear cT htk hrd4 hr4
      go_wp2_with fail
      refine CT.out.mono ?_
      rintro e x2 ⟨v5, rfl, row5, b5⟩
      have B5 := btV B4 b5
      obtain ⟨A5, c5, rfl, hc5, hA5, hrd5⟩ := row5.rd
      dsimp only at hc5 hrd5
      have HR5 := Lib.hid hrd5
      have rT := refTakeR_any a1 c1 z1 x2 (HR1.out.below (Nat.le_refl _) B5) hlc1 (by omega)
      rw [HTk.out] at rT
      have RT := Lib.hid rT
      clear rT hrd5 row5
      go_wp2_with fail
      refine RT.out.mono ?_
      rintro e x3 ⟨v8, rfl, row8, b6⟩
      have B6 := btV B5 b6
      obtain ⟨A8, c8, rfl, hc8, hA8, hrd8⟩ := row8.rd
      dsimp only at hc8 hrd8
      have HR5' := Lib.hid (HR5.out.below (Nat.le_refl _) b6)
      have s1 := refSame_any A5 A8 c5 c8 x x x3 HR5'.out hrd8 hc5 hc8 (by omega) (by omega)
      rw [decide_eq_true (rfl : x = x)] at s1
      have S1 := Lib.hid s1
      have hee : (e0 != e0) = false := by simp
      have hmm : ((m0 : Int) != (m0 : Int)) = false := by simp
      clear s1 hrd8 row8
      by_cases he0 : e0 = 0
      · subst he0
        have hxr := (takeP_right HTk.out).1
        have HKx := Lib.hid (rightP_keys hxr)
        have HXr := Lib.hid hxr
        clear hxr
        go_wp2_with fail
        refine S1.out.mono ?_
        rintro e x4 ⟨rfl, b7⟩
        have B7 := btV B6 b7
        have rr := refRightP_any A5 c5 x x4 (HR5'.out.below (Nat.le_refl _) b7) hc5 HKx.out
        rw [HXr.out] at rr
        have RR := Lib.hid rr
        clear rr
        go_wp2_with fail
        refine RR.out.mono ?_
        rintro e x5 ⟨rfl, b8⟩
        have B8 := btV B7 b8
        clear b7 b8 B7 hee hmm
        have d0 := propsBytes_any a0 c0 z0 x5 (HR0.out.below (Nat.le_refl _) B8) (by omega) (smallP_of HF0.out HS0.out) (Utf8Tabs_below HT.out B8)
        unfold PBytesPost at d0
        cases hr0 : rightP z0 with
        | false =>
          rw [hr0] at d0
          simp only [Bool.false_eq_true, if_false] at d0
          have D0 := Lib.hid d0
          have HP0 := Lib.hid hr0
          clear d0 hr0
          go_wp2_with fail
          refine D0.out.mono ?_
          rintro e x6 ⟨va, rfl, r6, b7⟩
          have B7 := btV B8 b7
          obtain ⟨ga, capa, rfl⟩ := URow.slice r6
          have r0 := refRightP_any a0 c0 z0 x6 (HR0.out.below (Nat.le_refl _) B7) hlc0 HK0.out
          rw [HP0.out] at r0
          have R0 := Lib.hid r0
          clear r0
          go_wp2_with fail
          refine R0.out.mono ?_
          rintro e x7 ⟨rfl, b8⟩
          go_wp2_with fail
          go_ret
          exact ⟨rfl, btV B7 b8⟩
        | true =>
          rw [hr0] at d0
          simp only [if_true] at d0
          have hbk := takeP_back z0 z1 HF0.out hr0
          have hpos : 0 < (propsB z0).length := by unfold propsB; simp
          have hplen := propsB_len (smallP_of HF0.out HS0.out)
          have cB := fun W h => refPBytes_any a0 c0 z0 W h (by omega) (smallP_of HF0.out HS0.out)
          obtain ⟨pb, hpb⟩ : ∃ l, propsB z0 = l := ⟨_, rfl⟩
          rw [hpb] at d0 hbk hpos hplen cB
          have D0 := Lib.hid d0
          have HP0 := Lib.hid hr0
          have HBk := Lib.hid hbk
          have CB := Lib.hid cB
          have hpl : pb.length ≤ 400000 := by omega
          clear d0 hr0 hbk hpb cB hplen
          go_wp2_with fail
          refine D0.out.mono ?_
          rintro e x6 ⟨va, rfl, r6, b7⟩
          have B7 := btV B8 b7
          obtain ⟨g, cap, rfl⟩ := URow.form r6 hpos
          have r0 := refRightP_any a0 c0 z0 x6 (HR0.out.below (Nat.le_refl _) B7) hlc0 HK0.out
          rw [HP0.out] at r0
          have R0 := Lib.hid r0
          clear r0
          go_wp2_with fail
          refine R0.out.mono ?_
          rintro e x7 ⟨rfl, b8⟩
          have B8 := btV B7 b8
          have r7 := r6.belowP b8
          have dd : Below x7.heap.size x7 x7.drew := (Below.refl _ x7).drew
          have hrdd := HR0.out.below (Nat.le_refl _) (btV B8 dd)
          obtain ⟨PA, hPA⟩ : ∃ p : ByteArray, (⟨pb.toArray⟩ : ByteArray) = p := ⟨_, rfl⟩
          have erd := conv_rowT (r7.belowP dd)
          rw [hPA] at erd
          have heq : (PA.toList == PA.toList) = true := beq_self_eq_true _
          go_wp2_with fail
          refine wp_region_held_drew (S := fun w' => (convert 43 9 (.slice (some ⟨g, 0, none⟩) pb.length cap)).run Tryd.prog w' = .ok (.string PA) w') (by kernel_rfl) erd (fun hHeld => ?_)
          refine wpAnyH_take (i := 0) (v := ?_) (by simp only [List.getElem?_toArray, List.getElem?_cons_zero]; rfl) (by kernel_rfl) (by kernel_rfl) (by kernel_rfl) (by exact fun _ _ _ h => h) (Or.inl ⟨by rfl, ?_⟩) (by assumption) ?_
          rotate_left
          · intro w hSw; (try dsimp only at hSw); go_simp; (try with_reducible rfl)
          try simp only [Act.put, List.setIfInBounds_toArray, List.set_cons_zero, List.set_cons_succ]
          refine wpAnyH_take (i := 1) (v := ?_) (by simp only [List.getElem?_toArray, List.getElem?_cons_zero, List.getElem?_cons_succ]; rfl) (by kernel_rfl) (by kernel_rfl) (by kernel_rfl) (by exact fun _ _ _ h => h) (Or.inl ⟨by rfl, ?_⟩) (by assumption) ?_
          rotate_left
          · intro w hSw; (try dsimp only at hSw); go_simp; (try with_reducible rfl)
          try simp only [Act.put, List.setIfInBounds_toArray, List.set_cons_zero, List.set_cons_succ]
          refine wpAnyH_take (i := 2) (v := ?_) (by simp only [List.getElem?_toArray, List.getElem?_cons_zero, List.getElem?_cons_succ]; rfl) (by kernel_rfl) (by kernel_rfl) (by kernel_rfl) (by exact fun _ _ _ h => h) (Or.inl ⟨by rfl, ?_⟩) (by assumption) ?_
          rotate_left
          · intro w hSw; (try dsimp only at hSw); go_simp; (try with_reducible rfl)
          try simp only [Act.put, List.setIfInBounds_toArray, List.set_cons_zero, List.set_cons_succ]
          refine wpAnyH_take (i := 3) (v := ?_) (by simp only [List.getElem?_toArray, List.getElem?_cons_zero, List.getElem?_cons_succ]; rfl) (by kernel_rfl) (by kernel_rfl) (by kernel_rfl) (by exact fun _ _ _ h => h) (Or.inl ⟨by rfl, ?_⟩) (by assumption) ?_
          rotate_left
          · intro w hSw; (try dsimp only at hSw); go_simp; (try with_reducible rfl)
          try simp only [Act.put, List.setIfInBounds_toArray, List.set_cons_zero, List.set_cons_succ]
          refine wpAnyH_take (i := 4) (v := ?_) (by simp only [List.getElem?_toArray, List.getElem?_cons_zero, List.getElem?_cons_succ]; rfl) (by kernel_rfl) (by kernel_rfl) (by kernel_rfl) (by exact fun _ _ _ h => h) (Or.inl ⟨by rfl, ?_⟩) (by assumption) ?_
          rotate_left
          · intro w hSw; (try dsimp only at hSw); go_simp; (try with_reducible rfl)
          try simp only [Act.put, List.setIfInBounds_toArray, List.set_cons_zero, List.set_cons_succ]
          refine wpAnyH_take (i := 5) (v := ?_) (by simp only [List.getElem?_toArray, List.getElem?_cons_zero, List.getElem?_cons_succ]; rfl) (by kernel_rfl) (by kernel_rfl) (by kernel_rfl) (by exact fun _ _ _ h => h) (Or.inl ⟨by rfl, ?_⟩) (by assumption) ?_
          rotate_left
          · intro w hSw; (try dsimp only at hSw); go_simp; (try with_reducible rfl)
          try simp only [Act.put, List.setIfInBounds_toArray, List.set_cons_zero, List.set_cons_succ]
          refine wpAnyH_ready (rs := [6]) (by kernel_rfl) (by simp) ?_
          refine AllReadyH.cons (by simp only [List.getElem?_toArray, List.getElem?_cons_zero, List.getElem?_cons_succ]; rfl) (fun K hK => ?_) AllReadyH.nil
          go_simp
          go_at_call 24
          refine (CB.out _ hrdd).mono ?_
          rintro e x8 ⟨vb, rfl, t8, b8⟩
          have d8 : Below x7.heap.size x7 x8 := dd.trans b8
          have er8 := conv_rowT (r7.belowP d8)
          have et8 := conv_rowT t8
          rw [hPA] at er8 et8
          obtain ⟨g2, cap2, rfl⟩ := URow.form t8 hpos
          go_wp2_with fail
          refine hK.out _ _ (er8) (fun hHeld => ?_)
          clear hK K
          try simp only [Act.put, List.setIfInBounds_toArray, List.set_cons_zero, List.set_cons_succ]
          refine wpAnyH_ready (rs := [7]) (by kernel_rfl) (by simp) ?_
          refine AllReadyH.cons (by simp only [List.getElem?_toArray, List.getElem?_cons_zero, List.getElem?_cons_succ]; rfl) (fun K hK => ?_) AllReadyH.nil
          go_simp
          refine hK.out _ _ (er8) (fun hHeld => ?_)
          clear hK K
          try simp only [Act.put, List.setIfInBounds_toArray, List.set_cons_zero, List.set_cons_succ]
          refine wpAnyH_take (i := 8) (v := ?_) (by simp only [List.getElem?_toArray, List.getElem?_cons_zero, List.getElem?_cons_succ]; rfl) (by kernel_rfl) (by kernel_rfl) (by kernel_rfl) (by exact fun _ _ _ h => h) (Or.inl ⟨by rfl, ?_⟩) (by assumption) ?_
          rotate_left
          · intro w hSw; (try dsimp only at hSw); go_simp; (try with_reducible rfl)
          try simp only [Act.put, List.setIfInBounds_toArray, List.set_cons_zero, List.set_cons_succ]
          refine wpAnyH_take (i := 9) (v := ?_) (by simp only [List.getElem?_toArray, List.getElem?_cons_zero, List.getElem?_cons_succ]; rfl) (by kernel_rfl) (by kernel_rfl) (by kernel_rfl) (by exact fun _ _ _ h => h) (Or.inl ⟨by rfl, ?_⟩) (by assumption) ?_
          rotate_left
          · intro w hSw; (try dsimp only at hSw); go_simp; (try with_reducible rfl)
          try simp only [Act.put, List.setIfInBounds_toArray, List.set_cons_zero, List.set_cons_succ]
          refine wpAnyH_done (by kernel_rfl) ?_ _
          clear heq
          have B9 := btV B8 d8
          have r8 := r7.belowP d8
          go_wp2_with (at_builtin; refine wpList_append_bytes rfl _ _ rfl x8.heap.size _ 0 [] rfl (lit0 x8) (some ⟨g, 0, none⟩) cap pb rfl (RdB_row (r8.belowP ((Below.refl _ x8).alloc (Nat.le_refl _) _))) (by omega) (by simp) ?_)
          intro v9 x9 r9 b9
          have d9 : Below x8.heap.size x8 x9 := ((Below.refl x8.heap.size x8).alloc (Nat.le_refl _) _).trans b9
          have B10 := btV B9 d9
          try rw [Nat.zero_add, List.nil_append] at r9
          go_wp2_with (at_builtin; refine wpList_append_bytes rfl _ _ rfl x8.heap.size _ pb.length pb rfl r9 a1 c1 z1 rfl (HR1.out.below (Nat.le_refl _) B10) (by omega) d9.size ?_)
          intro v10 x10 r10 b10
          have B11 := btV B9 (d9.trans b10)
          rw [← List.length_append] at r10
          obtain ⟨A10, c10, rfl, hrd10, hc10⟩ := r10.rd
          have cT := propsTake_any A10 c10 (pb ++ z1) x10 hrd10 hc10 (by rw [List.length_append]; omega) (Utf8Tabs_below HT.out B11)
          rw [HBk.out, List.length_append] at cT
          have CT2 := Lib.hid cT
          clear cT hrd10 r10 r9
          go_wp2_with fail
          refine CT2.out.mono ?_
          rintro e x11 ⟨v11, rfl, row11, b11⟩
          have B12 := btV B11 b11
          obtain ⟨A11, c11, rfl, hc11, hA11, hrd11⟩ := row11.rd
          dsimp only at hc11 hrd11
          have s2 := refSame_any A11 a0 c11 c0 z0 z0 x11 hrd11 (HR0.out.below (Nat.le_refl _) B12) hc11 hlc0 (by omega) (by omega)
          rw [decide_eq_true (rfl : z0 = z0)] at s2
          have S2 := Lib.hid s2
          clear s2 hrd11 row11
          go_wp2_with fail
          refine S2.out.mono ?_
          rintro e x12 ⟨rfl, b12⟩
          go_wp2_with fail
          go_ret
          exact ⟨rfl, btV B12 b12⟩
      · have he1 : (e0 == 0) = false := by simpa using he0
        go_wp2_with fail
        refine S1.out.mono ?_
        rintro e x5 ⟨rfl, b7⟩
        have B8 := btV B6 b7
        clear b7 hee hmm
        have d0 := propsBytes_any a0 c0 z0 x5 (HR0.out.below (Nat.le_refl _) B8) (by omega) (smallP_of HF0.out HS0.out) (Utf8Tabs_below HT.out B8)
        unfold PBytesPost at d0
        cases hr0 : rightP z0 with
        | false =>
          rw [hr0] at d0
          simp only [Bool.false_eq_true, if_false] at d0
          have D0 := Lib.hid d0
          have HP0 := Lib.hid hr0
          clear d0 hr0
          go_wp2_with fail
          refine D0.out.mono ?_
          rintro e x6 ⟨va, rfl, r6, b7⟩
          have B7 := btV B8 b7
          obtain ⟨ga, capa, rfl⟩ := URow.slice r6
          have r0 := refRightP_any a0 c0 z0 x6 (HR0.out.below (Nat.le_refl _) B7) hlc0 HK0.out
          rw [HP0.out] at r0
          have R0 := Lib.hid r0
          clear r0
          go_wp2_with fail
          refine R0.out.mono ?_
          rintro e x7 ⟨rfl, b8⟩
          go_wp2_with fail
          go_ret
          exact ⟨rfl, btV B7 b8⟩
        | true =>
          rw [hr0] at d0
          simp only [if_true] at d0
          have hbk := takeP_back z0 z1 HF0.out hr0
          have hpos : 0 < (propsB z0).length := by unfold propsB; simp
          have hplen := propsB_len (smallP_of HF0.out HS0.out)
          have cB := fun W h => refPBytes_any a0 c0 z0 W h (by omega) (smallP_of HF0.out HS0.out)
          obtain ⟨pb, hpb⟩ : ∃ l, propsB z0 = l := ⟨_, rfl⟩
          rw [hpb] at d0 hbk hpos hplen cB
          have D0 := Lib.hid d0
          have HP0 := Lib.hid hr0
          have HBk := Lib.hid hbk
          have CB := Lib.hid cB
          have hpl : pb.length ≤ 400000 := by omega
          clear d0 hr0 hbk hpb cB hplen
          go_wp2_with fail
          refine D0.out.mono ?_
          rintro e x6 ⟨va, rfl, r6, b7⟩
          have B7 := btV B8 b7
          obtain ⟨g, cap, rfl⟩ := URow.form r6 hpos
          have r0 := refRightP_any a0 c0 z0 x6 (HR0.out.below (Nat.le_refl _) B7) hlc0 HK0.out
          rw [HP0.out] at r0
          have R0 := Lib.hid r0
          clear r0
          go_wp2_with fail
          refine R0.out.mono ?_
          rintro e x7 ⟨rfl, b8⟩
          have B8 := btV B7 b8
          have r7 := r6.belowP b8
          have dd : Below x7.heap.size x7 x7.drew := (Below.refl _ x7).drew
          have hrdd := HR0.out.below (Nat.le_refl _) (btV B8 dd)
          obtain ⟨PA, hPA⟩ : ∃ p : ByteArray, (⟨pb.toArray⟩ : ByteArray) = p := ⟨_, rfl⟩
          have erd := conv_rowT (r7.belowP dd)
          rw [hPA] at erd
          have heq : (PA.toList == PA.toList) = true := beq_self_eq_true _
          go_wp2_with fail
          refine wp_region_held_drew (S := fun w' => (convert 43 9 (.slice (some ⟨g, 0, none⟩) pb.length cap)).run Tryd.prog w' = .ok (.string PA) w') (by kernel_rfl) erd (fun hHeld => ?_)
          refine wpAnyH_take (i := 0) (v := ?_) (by simp only [List.getElem?_toArray, List.getElem?_cons_zero]; rfl) (by kernel_rfl) (by kernel_rfl) (by kernel_rfl) (by exact fun _ _ _ h => h) (Or.inl ⟨by rfl, ?_⟩) (by assumption) ?_
          rotate_left
          · intro w hSw; (try dsimp only at hSw); go_simp; (try with_reducible rfl)
          try simp only [Act.put, List.setIfInBounds_toArray, List.set_cons_zero, List.set_cons_succ]
          refine wpAnyH_take (i := 1) (v := ?_) (by simp only [List.getElem?_toArray, List.getElem?_cons_zero, List.getElem?_cons_succ]; rfl) (by kernel_rfl) (by kernel_rfl) (by kernel_rfl) (by exact fun _ _ _ h => h) (Or.inl ⟨by rfl, ?_⟩) (by assumption) ?_
          rotate_left
          · intro w hSw; (try dsimp only at hSw); go_simp; (try with_reducible rfl)
          try simp only [Act.put, List.setIfInBounds_toArray, List.set_cons_zero, List.set_cons_succ]
          refine wpAnyH_take (i := 2) (v := ?_) (by simp only [List.getElem?_toArray, List.getElem?_cons_zero, List.getElem?_cons_succ]; rfl) (by kernel_rfl) (by kernel_rfl) (by kernel_rfl) (by exact fun _ _ _ h => h) (Or.inl ⟨by rfl, ?_⟩) (by assumption) ?_
          rotate_left
          · intro w hSw; (try dsimp only at hSw); go_simp; (try with_reducible rfl)
          try simp only [Act.put, List.setIfInBounds_toArray, List.set_cons_zero, List.set_cons_succ]
          refine wpAnyH_take (i := 3) (v := ?_) (by simp only [List.getElem?_toArray, List.getElem?_cons_zero, List.getElem?_cons_succ]; rfl) (by kernel_rfl) (by kernel_rfl) (by kernel_rfl) (by exact fun _ _ _ h => h) (Or.inl ⟨by rfl, ?_⟩) (by assumption) ?_
          rotate_left
          · intro w hSw; (try dsimp only at hSw); go_simp; (try with_reducible rfl)
          try simp only [Act.put, List.setIfInBounds_toArray, List.set_cons_zero, List.set_cons_succ]
          refine wpAnyH_take (i := 4) (v := ?_) (by simp only [List.getElem?_toArray, List.getElem?_cons_zero, List.getElem?_cons_succ]; rfl) (by kernel_rfl) (by kernel_rfl) (by kernel_rfl) (by exact fun _ _ _ h => h) (Or.inl ⟨by rfl, ?_⟩) (by assumption) ?_
          rotate_left
          · intro w hSw; (try dsimp only at hSw); go_simp; (try with_reducible rfl)
          try simp only [Act.put, List.setIfInBounds_toArray, List.set_cons_zero, List.set_cons_succ]
          refine wpAnyH_take (i := 5) (v := ?_) (by simp only [List.getElem?_toArray, List.getElem?_cons_zero, List.getElem?_cons_succ]; rfl) (by kernel_rfl) (by kernel_rfl) (by kernel_rfl) (by exact fun _ _ _ h => h) (Or.inl ⟨by rfl, ?_⟩) (by assumption) ?_
          rotate_left
          · intro w hSw; (try dsimp only at hSw); go_simp; (try with_reducible rfl)
          try simp only [Act.put, List.setIfInBounds_toArray, List.set_cons_zero, List.set_cons_succ]
          refine wpAnyH_ready (rs := [6]) (by kernel_rfl) (by simp) ?_
          refine AllReadyH.cons (by simp only [List.getElem?_toArray, List.getElem?_cons_zero, List.getElem?_cons_succ]; rfl) (fun K hK => ?_) AllReadyH.nil
          go_simp
          go_at_call 24
          refine (CB.out _ hrdd).mono ?_
          rintro e x8 ⟨vb, rfl, t8, b8⟩
          have d8 : Below x7.heap.size x7 x8 := dd.trans b8
          have er8 := conv_rowT (r7.belowP d8)
          have et8 := conv_rowT t8
          rw [hPA] at er8 et8
          obtain ⟨g2, cap2, rfl⟩ := URow.form t8 hpos
          go_wp2_with fail
          refine hK.out _ _ (er8) (fun hHeld => ?_)
          clear hK K
          try simp only [Act.put, List.setIfInBounds_toArray, List.set_cons_zero, List.set_cons_succ]
          refine wpAnyH_ready (rs := [7]) (by kernel_rfl) (by simp) ?_
          refine AllReadyH.cons (by simp only [List.getElem?_toArray, List.getElem?_cons_zero, List.getElem?_cons_succ]; rfl) (fun K hK => ?_) AllReadyH.nil
          go_simp
          refine hK.out _ _ (er8) (fun hHeld => ?_)
          clear hK K
          try simp only [Act.put, List.setIfInBounds_toArray, List.set_cons_zero, List.set_cons_succ]
          refine wpAnyH_take (i := 8) (v := ?_) (by simp only [List.getElem?_toArray, List.getElem?_cons_zero, List.getElem?_cons_succ]; rfl) (by kernel_rfl) (by kernel_rfl) (by kernel_rfl) (by exact fun _ _ _ h => h) (Or.inl ⟨by rfl, ?_⟩) (by assumption) ?_
          rotate_left
          · intro w hSw; (try dsimp only at hSw); go_simp; (try with_reducible rfl)
          try simp only [Act.put, List.setIfInBounds_toArray, List.set_cons_zero, List.set_cons_succ]
          refine wpAnyH_take (i := 9) (v := ?_) (by simp only [List.getElem?_toArray, List.getElem?_cons_zero, List.getElem?_cons_succ]; rfl) (by kernel_rfl) (by kernel_rfl) (by kernel_rfl) (by exact fun _ _ _ h => h) (Or.inl ⟨by rfl, ?_⟩) (by assumption) ?_
          rotate_left
          · intro w hSw; (try dsimp only at hSw); go_simp; (try with_reducible rfl)
          try simp only [Act.put, List.setIfInBounds_toArray, List.set_cons_zero, List.set_cons_succ]
          refine wpAnyH_done (by kernel_rfl) ?_ _
          clear heq
          have B9 := btV B8 d8
          have r8 := r7.belowP d8
          go_wp2_with (at_builtin; refine wpList_append_bytes rfl _ _ rfl x8.heap.size _ 0 [] rfl (lit0 x8) (some ⟨g, 0, none⟩) cap pb rfl (RdB_row (r8.belowP ((Below.refl _ x8).alloc (Nat.le_refl _) _))) (by omega) (by simp) ?_)
          intro v9 x9 r9 b9
          have d9 : Below x8.heap.size x8 x9 := ((Below.refl x8.heap.size x8).alloc (Nat.le_refl _) _).trans b9
          have B10 := btV B9 d9
          try rw [Nat.zero_add, List.nil_append] at r9
          go_wp2_with (at_builtin; refine wpList_append_bytes rfl _ _ rfl x8.heap.size _ pb.length pb rfl r9 a1 c1 z1 rfl (HR1.out.below (Nat.le_refl _) B10) (by omega) d9.size ?_)
          intro v10 x10 r10 b10
          have B11 := btV B9 (d9.trans b10)
          rw [← List.length_append] at r10
          obtain ⟨A10, c10, rfl, hrd10, hc10⟩ := r10.rd
          have cT := propsTake_any A10 c10 (pb ++ z1) x10 hrd10 hc10 (by rw [List.length_append]; omega) (Utf8Tabs_below HT.out B11)
          rw [HBk.out, List.length_append] at cT
          have CT2 := Lib.hid cT
          clear cT hrd10 r10 r9
          go_wp2_with fail
          refine CT2.out.mono ?_
          rintro e x11 ⟨v11, rfl, row11, b11⟩
          have B12 := btV B11 b11
          obtain ⟨A11, c11, rfl, hc11, hA11, hrd11⟩ := row11.rd
          dsimp only at hc11 hrd11
          have s2 := refSame_any A11 a0 c11 c0 z0 z0 x11 hrd11 (HR0.out.below (Nat.le_refl _) B12) hc11 hlc0 (by omega) (by omega)
          rw [decide_eq_true (rfl : z0 = z0)] at s2
          have S2 := Lib.hid s2
          clear s2 hrd11 row11
          go_wp2_with fail
          refine S2.out.mono ?_
          rintro e x12 ⟨rfl, b12⟩
          go_wp2_with fail
          go_ret
          exact ⟨rfl, btV B12 b12⟩

set_option maxRecDepth 100000 in
theorem lifted (os : Os) (started : os.Started) (H : Type) (enc : TypeId × Value → H) :
    ReturnsInHanded {} Tryd.checked os 4 .any (fun w args => (Rows.propsTakesSpec.pre enc Tryd.prog Tryd.f4 [] false w args ∧ laidMetH Tryd.prog Rows.propsTakesRow.laid w) ∧ sizedMet enc Tryd.prog Tryd.f4 (OpenSpec.ofChange Rows.propsTakesSpec) false w args) (Rows.propsTakesSpec.post enc Tryd.prog Tryd.f4 false true false false) := by
  refine returnsInHanded_of_change_and (C := Tryd.checked) (X := fun w _ => laidMetH Tryd.prog Rows.propsTakesRow.laid w) (fun _ _ _ hh h => h.of_heap hh) own started (by kernel_rfl) Tryd.func4
    (ChangeSpec.witness_shaped (enc := enc) (C := Tryd.checked) (os := os) (X := fun w _ => laidMetH Tryd.prog Rows.propsTakesRow.laid w) false (World.laidAll Tryd.prog os Rows.propsTakesRow.laid) #[.slice none 0 0, .slice none 0 0] 8 (World.laidAll_os _ _ _)
      (World.shaped_of_ZipB (by kernel_rfl) (by kernel_rfl)) (by kernel_rfl) (by kernel_rfl) (by kernel_rfl)
      (by rw [MakeChecks.laidMetH_plain _ _ _ (by kernel_rfl)]; exact laidMet_laidAll _ (by kernel_rfl) (by kernel_rfl))) ?_
  intro W base args ds gs before hval0 hW _ _ hL _
  have hval : ∀ (j : Nat) t v, Tryd.f4.params[j]? = some t → args[j]? = some v → Value.okWide Tryd.prog W .any base t v := hval0
  have hW' := hW
  obtain ⟨p, q, hA0, hV, rfl, hfz, hnd⟩ := hW
  have hA : DataW.TrodAll enc Tryd.prog W 0 (fun _ => true) true Tryd.f4.params.toList args.toList ds p := hA0
  rw [Tryd.params4] at hA hval
  obtain ⟨v0, vs0, d0, ds0, p0, q0, hargs, rfl, rfl, h0, r0⟩ := trodAll_cons hA
  obtain ⟨v1, vs1, d1, ds1, p1, q1, rfl, rfl, rfl, h1, r1⟩ := trodAll_cons r0
  obtain ⟨rfl, rfl, rfl⟩ := trodAll_nil r1
  obtain rfl : args = #[v0, v1] := by cases args; simp_all
  obtain ⟨rfl, rfl⟩ := trodVars_none hV
  obtain ⟨a0, l0, c0, rfl⟩ := okWide_slice Tryd.underlying22 (hval 0 22 v0 rfl rfl)
  have tk0 := h0
  have lt0 : ∀ x ∈ p0, x.block < W.heap.size := by obtain ⟨m, hm⟩ := tk0; exact DataW.trod_lt m _ _ _ hm
  obtain ⟨z0, w0⟩ : ∃ zs, SlcP W a0 l0 c0 zs := by
    obtain ⟨fuel, hf⟩ := h0
    exact open_props (by simpa [Value.cells] using hf)
  obtain ⟨a1, l1, c1, rfl⟩ := okWide_slice Tryd.underlying43 (hval 1 43 v1 rfl rfl)
  have tk1 := h1
  have lt1 : ∀ x ∈ p1, x.block < W.heap.size := by obtain ⟨m, hm⟩ := tk1; exact DataW.trod_lt m _ _ _ hm
  obtain ⟨z1, w1⟩ : ∃ zs, SlcB W a1 l1 c1 zs := by
    obtain ⟨fuel, hf⟩ := h1
    rcases open_ints Tryd.underlying43 Tryd.underlying5 (by kernel_rfl) hf with ⟨hcs, _⟩ | ⟨x, l, c, zs, hcs, _, hl, hm, hz, _, hcell, hwz⟩
    · simp [Value.cells] at hcs
      obtain ⟨rfl, rfl, rfl⟩ := hcs
      exact ⟨[], SlcB.none_ W⟩
    · simp [Value.cells] at hcs
      obtain ⟨rfl, rfl, rfl⟩ := hcs
      exact ⟨_, SlcB.some_ hl (by simpa using hz) hcell hwz⟩
  clear hA0 hval0
  rw [MakeChecks.laidMetH_plain _ _ _ (by kernel_rfl)] at hL
  have hT : Tabs W := tabs_of_laid hL
  refine (walk a0 l0 c0 z0 a1 l1 c1 z1  W w0 w1 hT).mono fun e W' ⟨he, bel⟩ => ?_
  subst he
  exact ⟨_, rfl, _, _, _, [], _, [], hW', trodAll_mk1 (shut_bool Tryd.underlying4 _), (trodAll_cons_mk (Below.trod laidOut (by kernel_rfl) (of_decide_eq_true (by kernel_rfl)) tk0 bel lt0) (trodAll_cons_mk (Below.trod laidOut (by kernel_rfl) (of_decide_eq_true (by kernel_rfl)) tk1 bel lt1) trodAll_mk0)), rfl, bel.frame _, fun h => by cases h⟩

theorem over : Rows.propsTakesRow.holds Tryd.pinned (OpenSpec.ofChange Rows.propsTakesSpec) :=
  OpenClaim.holds_of_wide 4 Tryd.f4 rfl rfl rfl rfl rfl rfl rfl ⟨rfl, rfl, rfl, rfl, rfl⟩ rfl rfl rfl rfl rfl (by kernel_rfl) Tryd.func4 (by kernel_rfl)
    (of_decide_eq_true (by kernel_rfl)) (by unfold Func.isWrapper; first | (rw [if_pos (by decide +kernel)]; kernel_rfl) | (rw [if_neg (by decide +kernel)]; exact ⟨rfl, rfl⟩))
    (fun os started H enc _ => lifted os started H enc)
theorem proved : Rows.PropsTakesCardSaid :=
  Claim7.holds_tied_plain_at .later [] [.data, .pinned] true _ true
    over (fun _ h => by cases h) (by kernel_rfl) (fun _ h => by cases h) propsTakes_row_tie rfl ⟨rfl, rfl⟩ (by kernel_rfl) rfl
    (fun f fn hf hfn => by
      obtain rfl : f = 4 := Option.some.inj ((show Tryd.prog.funcNamed "cobweb/cobweblaw03.PropsTakes" = some 4 by kernel_rfl).symm.trans hf) |>.symm
      obtain rfl : fn = Tryd.f4 := (Option.some.inj (Tryd.func4.symm.trans hfn)).symm
      exact ⟨by kernel_rfl, fun j t ht => by
        rw [Tryd.params4] at ht
        have hm : t ∈ [22, 43] := by simpa using Array.mem_of_getElem? ht
        have hall : ([22, 43].all fun u => !Tryd.prog.wantsStandIn u) = true := by kernel_rfl
        exact (show Tryd.prog.wantsStandIn t = false by simpa using List.all_eq_true.1 hall t hm)⟩)
    (by kernel_rfl)
end Go.Proofs.YtgacphpkgaobkaaDoor.propsTakes
