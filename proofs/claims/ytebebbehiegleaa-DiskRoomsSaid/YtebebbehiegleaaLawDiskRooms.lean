/- A disk takes just as many bytes as its room says (P7.1); no conditions. -/
import Derived.Test.YtebebbehiegleaaNum
import Derived.Test.YtebebbehiegleaaOpenK
import Derived.Test.YtebebbehiegleaaDiCode
import Derived.Test.YtebebbehiegleaaDiHold
import Derived.Test.YtebebbehiegleaaModG
import Derived.Test.YtebebbehiegleaaMakeG
import Derived.Test.YtebebbehiegleaaPass
namespace Go.Proofs.Ytebebbehiegleaa.diskRooms
open Go.ChangeShapes Go.WideShapes Go.ChangeAt Go.RowKit
open Go.ChangeMaps (open_string shut_string)
set_option linter.unusedVariables false

set_option maxHeartbeats 40000000 in
set_option maxRecDepth 100000 in
theorem walk (a0 : Int) (a1 : Option Addr) (l1 c1 : Nat) (z1 : List Int) (w0 : (Lit.int .i64 a0).wf = true) (w : World) (w1 : SlcI w a1 l1 c1 z1) :
    Calls Try.prog 5 #[.int .i64 a0, .slice a1 l1 c1] w fun e w' => e = .returned (.bool true) ∧ Below w.heap.size w w' := by
  have he0 := wf_i64 w0
  obtain ⟨rfl, hlc, hrd, hus⟩ := w1
  have HR := Lib.hid hrd
  obtain ⟨C⟩ := diSpec_is
  obtain ⟨q, hq, hq1⟩ := idx_inG a0 500 (by decide) (by decide)
  clear w0 hrd hus
  go_enter Try.func5, Try.ntmps5
  go_wp2_with fail
  refine (awake_any C _).mono ?_
  rintro e x1 ⟨rfl, b1⟩
  by_cases hbig : 60 < z1.length
  · have hbig2 : (60 : Int) < (z1.length : Int) := by omega
    go_wp2_with fail
    refine (awake_any C _).mono ?_
    rintro e x2 ⟨rfl, b2⟩
    go_wp2_with fail
    go_ret
    exact ⟨rfl, b1.trans (b2.mono b1.size)⟩
  · have hbig2 : decide ((60 : Int) < (z1.length : Int)) = false := decide_eq_false (by omega)
    have hbig3 : ¬ ((60 : Int) < (z1.length : Int)) := by omega
    have HN := Lib.hid (HoldD.new C w x1 b1 q (by omega))
    have hlz : z1.length ≤ 60 := by omega
    clear hbig b1
    go_wp2_with fail
    refine HN.out.mono ?_
    rintro e x2 ⟨N, S1, rfl, a1'⟩
    have HD1 := Lib.hid a1'
    clear a1' HN
    go_wp2_with fail
    go_loopw [8, 9] (fun us i wr => ∃ (k u : Nat) (bs : List UInt8) (S : Nat → Prop), us = .int .i64 (u : Nat) ∧ i = .int .i64 (k : Nat) ∧ k ≤ z1.length ∧ bs.length = u ∧ u ≤ q ∧ HoldD C w wr x1.heap.size N q bs 0 S) (fun _ i _ => z1.length - (intOf i).toNat)
    case atStart => exact ⟨0, 0, [], S1, rfl, rfl, Nat.zero_le _, rfl, Nat.zero_le _, HD1.out⟩
    case round =>
      clear HD1
      obtain ⟨k, u, bs, S, rfl, rfl, hk, hbs, hu, hD⟩ := hrel
      have HD := Lib.hid hD
      have HBs := Lib.hid hbs
      clear hD hbs
      by_cases hlt : k < z1.length
      · obtain ⟨ad, rfl, hblk, hcell⟩ := (HR.out.below (Nat.le_refl _) HD.out.bel) k hlt
        obtain ⟨y, hy⟩ : ∃ x, z1.getD k 0 = x := ⟨_, rfl⟩
        rw [hy] at hcell
        obtain ⟨x, hx, hxlt⟩ := idx_inG y 90 (by decide) (by decide)
        have hki : (k : Int) < (z1.length : Int) := by omega
        obtain ⟨h, g, hhg, hdv⟩ : ∃ h g : Nat, h + g = x ∧ (x : Int).tdiv 2 = (h : Int) := ⟨x / 2, x - x / 2, by omega, by rw [Int.tdiv_eq_ediv_of_nonneg (by omega)]; omega⟩
        have hsb : IntKind.i64.wrap ((x : Int) - (h : Int)) = (g : Int) := by rw [IntWalk.i64_in _ (by omega)]; omega
        have HHg := Lib.hid hhg
        have hwh : IntKind.i64.wrap (h : Int) = (h : Int) := IntWalk.i64_in _ (by omega)
        have hh9 : h < 90 := by omega
        have hg9 : g < 90 := by omega
        have hx9 : x < 90 := by omega
        clear hy hhg
        by_cases hfit : u + x ≤ q
        · have hfi : (u : Int) + (x : Int) ≤ (q : Int) := by omega
          go_wp2_with fail
          have hB0 := HD.out.drew.bel
          have HD0 := Lib.hid HD.out.drew
          refine wp_region_held_drew (S := (fun W => Below w.heap.size w W)) (by kernel_rfl) hB0 (fun hHeld => ?_)
          generalize wr.drew = W0 at *
          clear HD
          refine wpAnyH_take (i := 0) (v := ?_) (by simp only [List.getElem?_toArray, List.getElem?_cons_zero]; rfl) (by kernel_rfl) (by kernel_rfl) (by kernel_rfl) (by exact fun _ _ _ h => h) (Or.inl ⟨by rfl, ?_⟩) (by assumption) ?_
          rotate_left
          · intro w hSw; (try dsimp only at hSw); go_simp; (try with_reducible rfl)
          try simp only [Act.put, List.setIfInBounds_toArray, List.set_cons_zero, List.set_cons_succ]
          refine wpAnyH_take (i := 1) (v := ?_) (by simp only [List.getElem?_toArray, List.getElem?_cons_zero, List.getElem?_cons_succ]; rfl) (by kernel_rfl) (by kernel_rfl) (by kernel_rfl) (by exact fun _ _ _ h => h) (Or.inl ⟨by rfl, ?_⟩) (by assumption) ?_
          rotate_left
          · intro w hSw; (try dsimp only at hSw); go_simp; (try with_reducible rfl)
          try simp only [Act.put, List.setIfInBounds_toArray, List.set_cons_zero, List.set_cons_succ]
          refine wpAnyH_take (i := 2) (v := ?_) (by simp only [List.getElem?_toArray, List.getElem?_cons_zero, List.getElem?_cons_succ]; rfl) (by kernel_rfl) (by kernel_rfl) (by kernel_rfl) (by exact fun _ _ _ h => h) (Or.inl ⟨by rfl, ?_⟩) (by assumption) ?_
          rotate_left
          · intro w hSw; (try dsimp only at hSw); go_simp; (try with_reducible rfl)
          try simp only [Act.put, List.setIfInBounds_toArray, List.set_cons_zero, List.set_cons_succ]
          refine wpAnyH_take (i := 4) (v := ?_) (by simp only [List.getElem?_toArray, List.getElem?_cons_zero, List.getElem?_cons_succ]; rfl) (by kernel_rfl) (by kernel_rfl) (by kernel_rfl) (by exact fun _ _ _ h => h) (Or.inl ⟨by rfl, ?_⟩) (by assumption) ?_
          rotate_left
          · intro w hSw; (try dsimp only at hSw); go_simp; (try with_reducible rfl)
          try simp only [Act.put, List.setIfInBounds_toArray, List.set_cons_zero, List.set_cons_succ]
          refine wpAnyH_take (i := 5) (v := ?_) (by simp only [List.getElem?_toArray, List.getElem?_cons_zero, List.getElem?_cons_succ]; rfl) (by kernel_rfl) (by kernel_rfl) (by kernel_rfl) (by exact fun _ _ _ h => h) (Or.inl ⟨by rfl, ?_⟩) (by assumption) ?_
          rotate_left
          · intro w hSw; (try dsimp only at hSw); go_simp; (try with_reducible rfl)
          try simp only [Act.put, List.setIfInBounds_toArray, List.set_cons_zero, List.set_cons_succ]
          refine wpAnyH_take (i := 6) (v := ?_) (by simp only [List.getElem?_toArray, List.getElem?_cons_zero, List.getElem?_cons_succ]; rfl) (by kernel_rfl) (by kernel_rfl) (by kernel_rfl) (by exact fun _ _ _ h => h) (Or.inl ⟨by rfl, ?_⟩) (by assumption) ?_
          rotate_left
          · intro w hSw; (try dsimp only at hSw); go_simp; (try with_reducible rfl)
          try simp only [Act.put, List.setIfInBounds_toArray, List.set_cons_zero, List.set_cons_succ]
          refine wpAnyH_take (i := 7) (v := ?_) (by simp only [List.getElem?_toArray, List.getElem?_cons_zero, List.getElem?_cons_succ]; rfl) (by kernel_rfl) (by kernel_rfl) (by kernel_rfl) (by exact fun _ _ _ h => h) (Or.inl ⟨by rfl, ?_⟩) (by assumption) ?_
          rotate_left
          · intro w hSw; (try dsimp only at hSw); go_simp; (try with_reducible rfl)
          try simp only [Act.put, List.setIfInBounds_toArray, List.set_cons_zero, List.set_cons_succ]
          refine wpAnyH_ready (rs := [3, 8]) (by kernel_rfl) (by simp) ?_
          refine AllReadyH.cons (by simp only [List.getElem?_toArray, List.getElem?_cons_zero, List.getElem?_cons_succ]; rfl) (fun K hK => ?_) ?_
          · rw [if_pos (by rfl)]
            refine wp_makeB _ _ rfl (h) rfl rfl (by omega) ?_
            intro v1 r1 c1 l1
            have hB1 := hB0.trans (c1.mono hB0.size)
            refine hK.out _ _ (hB1) (fun hHeld => ?_)
            clear hK K
            try simp only [Act.put, List.setIfInBounds_toArray, List.set_cons_zero, List.set_cons_succ]
            refine wpAnyH_ready (rs := [8]) (by kernel_rfl) (by simp) ?_
            refine AllReadyH.cons (by simp only [List.getElem?_toArray, List.getElem?_cons_zero, List.getElem?_cons_succ]; rfl) (fun K hK => ?_) AllReadyH.nil
            rw [if_pos (by rfl)]
            refine wp_makeB _ _ rfl (g) rfl rfl (by omega) ?_
            intro v2 r2 c2 l2
            have hB2 := hB1.trans (c2.mono hB1.size)
            have hz1 : BsZ.ok v2 ⟨some ⟨W0.heap.size, 0, none⟩, h, List.replicate (h) 0⟩ := ⟨by simp, r1.below (Nat.le_refl _) c2⟩
            have hz2 : BsZ.ok v2 ⟨some ⟨v1.heap.size, 0, none⟩, g, List.replicate (g) 0⟩ := ⟨by simp, r2⟩
            have hlit := lit_two v2 _ _ hz1 hz2
            unfold BsZ.val at hlit
            simp only [List.length_replicate] at hlit
            have hD2 := (HD0.out.below (c1.trans (c2.mono c1.size))).alloc (.cells #[.slice (some ⟨W0.heap.size, 0, none⟩) (h) (h), .slice (some ⟨v1.heap.size, 0, none⟩) (g) (g)] 29)
            have hsz := c1.size
            have hsz2 := c2.size
            have hfr : FreeS S (some ⟨v2.heap.size, 0, none⟩) [⟨some ⟨W0.heap.size, 0, none⟩, h, List.replicate (h) 0⟩, ⟨some ⟨v1.heap.size, 0, none⟩, g, List.replicate (g) 0⟩] := by
              refine FreeS.new (w := W0) (fun k hk => (C.foot HD0.out.at_ k hk).2) (fun ad e => ?_) (fun z hz ad e => ?_)
              · injection e with e; rw [← e]; show W0.heap.size ≤ v2.heap.size; omega
              · rcases List.mem_cons.1 hz with rfl | hz
                · injection e with e; rw [← e]; show W0.heap.size ≤ W0.heap.size; omega
                · rw [List.mem_singleton.1 hz] at e
                  injection e with e; rw [← e]; show W0.heap.size ≤ v1.heap.size; omega
            have hcl : (catS [⟨some ⟨W0.heap.size, 0, none⟩, h, List.replicate (h) 0⟩, ⟨some ⟨v1.heap.size, 0, none⟩, g, List.replicate (g) 0⟩]).length = x := by have := HHg.out; simp [catS]; omega
            have hA := hD2.app (some ⟨v2.heap.size, 0, none⟩) 2 _ hlit hfr (Nat.le_refl _) (by show 2 ≤ 1000; decide) (by rw [hcl]; omega) (by rw [HBs.out]; omega) (by rw [HBs.out, hcl]; exact hfit)
            obtain ⟨cs, hcs⟩ : ∃ cs, catS [⟨some ⟨W0.heap.size, 0, none⟩, h, List.replicate (h) 0⟩, ⟨some ⟨v1.heap.size, 0, none⟩, g, List.replicate (g) 0⟩] = cs := ⟨_, rfl⟩
            rw [hcs] at hcl hA
            have HCl := Lib.hid hcl
            have HA := Lib.hid hA
            have hB3 := hD2.bel
            clear hA hcl hcs hlit hz1 hz2 hfr hD2 r1 r2 hsz hsz2
            refine hK.out _ _ (hB2) (fun hHeld => ?_)
            clear hK K
            try simp only [Act.put, List.setIfInBounds_toArray, List.set_cons_zero, List.set_cons_succ]
            refine wpAnyH_ready (rs := [9]) (by kernel_rfl) (by simp) ?_
            refine AllReadyH.cons (by simp only [List.getElem?_toArray, List.getElem?_cons_zero, List.getElem?_cons_succ]; rfl) (fun K hK => ?_) AllReadyH.nil
            go_simp
            refine hK.out _ _ (hB3) (fun hHeld => ?_)
            clear hK K
            try simp only [Act.put, List.setIfInBounds_toArray, List.set_cons_zero, List.set_cons_succ]
            refine wpAnyH_ready (rs := [10]) (by kernel_rfl) (by simp) ?_
            refine AllReadyH.cons (by simp only [List.getElem?_toArray, List.getElem?_cons_zero, List.getElem?_cons_succ]; rfl) (fun K hK => ?_) AllReadyH.nil
            go_simp
            refine HA.out.mono ?_
            rintro e y1 ⟨S2, rfl, a2⟩
            have hB4 := a2.bel
            have HD2 := Lib.hid a2
            clear a2
            go_wp2_with fail
            refine hK.out _ _ (hB4) (fun hHeld => ?_)
            clear hK K
            try simp only [Act.put, List.setIfInBounds_toArray, List.set_cons_zero, List.set_cons_succ]
            refine wpAnyH_take (i := 11) (v := ?_) (by simp only [List.getElem?_toArray, List.getElem?_cons_zero, List.getElem?_cons_succ]; rfl) (by kernel_rfl) (by kernel_rfl) (by kernel_rfl) (by exact fun _ _ _ h => h) (Or.inl ⟨by rfl, ?_⟩) (by assumption) ?_
            rotate_left
            · intro w hSw; (try dsimp only at hSw); go_simp; (try with_reducible rfl)
            try simp only [Act.put, List.setIfInBounds_toArray, List.set_cons_zero, List.set_cons_succ]
            refine wpAnyH_done (by kernel_rfl) ?_ _
            have hbl : (bs ++ cs).length = (u + x) := by rw [List.length_append, HBs.out, HCl.out]
            have HBl := Lib.hid hbl
            have HL := Lib.hid (HD2.out.len (u + x) hbl)
            clear hbl HD0 hB1 hB2 hB3 hB4 hB0 HA
            go_wp2_with fail
            refine HL.out.mono ?_
            rintro e y2 ⟨rfl, a3, _⟩
            have HLf := Lib.hid (a3.left (q - (u + x)) (by rw [HBl.out]))
            clear a3 HL HD2
            go_wp2_with fail
            refine HLf.out.mono ?_
            rintro e y3 ⟨rfl, a4, _⟩
            have HSf := Lib.hid a4.safe
            have hqu : ((q - (u + x) : Nat) : Int) = (q : Int) - (((u : Int) + (x : Int))) := by omega
            clear a4 HLf
            go_wp2_with fail
            refine HSf.out.mono ?_
            rintro e y4 ⟨rfl, a5, _⟩
            have HD5 := Lib.hid a5
            clear a5 HSf
            go_wp2_with fail
            go_roundw
            case rel => exact ⟨k + 1, (u + x), (bs ++ cs), S2, by go_num, by go_num, by omega, HBl.out, by omega, HD5.out⟩
            case measure => simp [intOf]; omega
          · refine AllReadyH.cons (by simp only [List.getElem?_toArray, List.getElem?_cons_zero, List.getElem?_cons_succ]; rfl) (fun K hK => ?_) AllReadyH.nil
            rw [if_pos (by rfl)]
            refine wp_makeB _ _ rfl (g) rfl rfl (by omega) ?_
            intro v1 r1 c1 l1
            have hB1 := hB0.trans (c1.mono hB0.size)
            refine hK.out _ _ (hB1) (fun hHeld => ?_)
            clear hK K
            try simp only [Act.put, List.setIfInBounds_toArray, List.set_cons_zero, List.set_cons_succ]
            refine wpAnyH_ready (rs := [3]) (by kernel_rfl) (by simp) ?_
            refine AllReadyH.cons (by simp only [List.getElem?_toArray, List.getElem?_cons_zero, List.getElem?_cons_succ]; rfl) (fun K hK => ?_) AllReadyH.nil
            rw [if_pos (by rfl)]
            refine wp_makeB _ _ rfl (h) rfl rfl (by omega) ?_
            intro v2 r2 c2 l2
            have hB2 := hB1.trans (c2.mono hB1.size)
            have hz1 : BsZ.ok v2 ⟨some ⟨v1.heap.size, 0, none⟩, h, List.replicate (h) 0⟩ := ⟨by simp, r2⟩
            have hz2 : BsZ.ok v2 ⟨some ⟨W0.heap.size, 0, none⟩, g, List.replicate (g) 0⟩ := ⟨by simp, r1.below (Nat.le_refl _) c2⟩
            have hlit := lit_two v2 _ _ hz1 hz2
            unfold BsZ.val at hlit
            simp only [List.length_replicate] at hlit
            have hD2 := (HD0.out.below (c1.trans (c2.mono c1.size))).alloc (.cells #[.slice (some ⟨v1.heap.size, 0, none⟩) (h) (h), .slice (some ⟨W0.heap.size, 0, none⟩) (g) (g)] 29)
            have hsz := c1.size
            have hsz2 := c2.size
            have hfr : FreeS S (some ⟨v2.heap.size, 0, none⟩) [⟨some ⟨v1.heap.size, 0, none⟩, h, List.replicate (h) 0⟩, ⟨some ⟨W0.heap.size, 0, none⟩, g, List.replicate (g) 0⟩] := by
              refine FreeS.new (w := W0) (fun k hk => (C.foot HD0.out.at_ k hk).2) (fun ad e => ?_) (fun z hz ad e => ?_)
              · injection e with e; rw [← e]; show W0.heap.size ≤ v2.heap.size; omega
              · rcases List.mem_cons.1 hz with rfl | hz
                · injection e with e; rw [← e]; show W0.heap.size ≤ v1.heap.size; omega
                · rw [List.mem_singleton.1 hz] at e
                  injection e with e; rw [← e]; show W0.heap.size ≤ W0.heap.size; omega
            have hcl : (catS [⟨some ⟨v1.heap.size, 0, none⟩, h, List.replicate (h) 0⟩, ⟨some ⟨W0.heap.size, 0, none⟩, g, List.replicate (g) 0⟩]).length = x := by have := HHg.out; simp [catS]; omega
            have hA := hD2.app (some ⟨v2.heap.size, 0, none⟩) 2 _ hlit hfr (Nat.le_refl _) (by show 2 ≤ 1000; decide) (by rw [hcl]; omega) (by rw [HBs.out]; omega) (by rw [HBs.out, hcl]; exact hfit)
            obtain ⟨cs, hcs⟩ : ∃ cs, catS [⟨some ⟨v1.heap.size, 0, none⟩, h, List.replicate (h) 0⟩, ⟨some ⟨W0.heap.size, 0, none⟩, g, List.replicate (g) 0⟩] = cs := ⟨_, rfl⟩
            rw [hcs] at hcl hA
            have HCl := Lib.hid hcl
            have HA := Lib.hid hA
            have hB3 := hD2.bel
            clear hA hcl hcs hlit hz1 hz2 hfr hD2 r1 r2 hsz hsz2
            refine hK.out _ _ (hB2) (fun hHeld => ?_)
            clear hK K
            try simp only [Act.put, List.setIfInBounds_toArray, List.set_cons_zero, List.set_cons_succ]
            refine wpAnyH_ready (rs := [9]) (by kernel_rfl) (by simp) ?_
            refine AllReadyH.cons (by simp only [List.getElem?_toArray, List.getElem?_cons_zero, List.getElem?_cons_succ]; rfl) (fun K hK => ?_) AllReadyH.nil
            go_simp
            refine hK.out _ _ (hB3) (fun hHeld => ?_)
            clear hK K
            try simp only [Act.put, List.setIfInBounds_toArray, List.set_cons_zero, List.set_cons_succ]
            refine wpAnyH_ready (rs := [10]) (by kernel_rfl) (by simp) ?_
            refine AllReadyH.cons (by simp only [List.getElem?_toArray, List.getElem?_cons_zero, List.getElem?_cons_succ]; rfl) (fun K hK => ?_) AllReadyH.nil
            go_simp
            refine HA.out.mono ?_
            rintro e y1 ⟨S2, rfl, a2⟩
            have hB4 := a2.bel
            have HD2 := Lib.hid a2
            clear a2
            go_wp2_with fail
            refine hK.out _ _ (hB4) (fun hHeld => ?_)
            clear hK K
            try simp only [Act.put, List.setIfInBounds_toArray, List.set_cons_zero, List.set_cons_succ]
            refine wpAnyH_take (i := 11) (v := ?_) (by simp only [List.getElem?_toArray, List.getElem?_cons_zero, List.getElem?_cons_succ]; rfl) (by kernel_rfl) (by kernel_rfl) (by kernel_rfl) (by exact fun _ _ _ h => h) (Or.inl ⟨by rfl, ?_⟩) (by assumption) ?_
            rotate_left
            · intro w hSw; (try dsimp only at hSw); go_simp; (try with_reducible rfl)
            try simp only [Act.put, List.setIfInBounds_toArray, List.set_cons_zero, List.set_cons_succ]
            refine wpAnyH_done (by kernel_rfl) ?_ _
            have hbl : (bs ++ cs).length = (u + x) := by rw [List.length_append, HBs.out, HCl.out]
            have HBl := Lib.hid hbl
            have HL := Lib.hid (HD2.out.len (u + x) hbl)
            clear hbl HD0 hB1 hB2 hB3 hB4 hB0 HA
            go_wp2_with fail
            refine HL.out.mono ?_
            rintro e y2 ⟨rfl, a3, _⟩
            have HLf := Lib.hid (a3.left (q - (u + x)) (by rw [HBl.out]))
            clear a3 HL HD2
            go_wp2_with fail
            refine HLf.out.mono ?_
            rintro e y3 ⟨rfl, a4, _⟩
            have HSf := Lib.hid a4.safe
            have hqu : ((q - (u + x) : Nat) : Int) = (q : Int) - (((u : Int) + (x : Int))) := by omega
            clear a4 HLf
            go_wp2_with fail
            refine HSf.out.mono ?_
            rintro e y4 ⟨rfl, a5, _⟩
            have HD5 := Lib.hid a5
            clear a5 HSf
            go_wp2_with fail
            go_roundw
            case rel => exact ⟨k + 1, (u + x), (bs ++ cs), S2, by go_num, by go_num, by omega, HBl.out, by omega, HD5.out⟩
            case measure => simp [intOf]; omega
        · have hfi : ¬ ((u : Int) + (x : Int) ≤ (q : Int)) := by omega
          go_wp2_with fail
          have hB0 := HD.out.drew.bel
          have HD0 := Lib.hid HD.out.drew
          refine wp_region_held_drew (S := (fun W => Below w.heap.size w W)) (by kernel_rfl) hB0 (fun hHeld => ?_)
          generalize wr.drew = W0 at *
          clear HD
          refine wpAnyH_take (i := 0) (v := ?_) (by simp only [List.getElem?_toArray, List.getElem?_cons_zero]; rfl) (by kernel_rfl) (by kernel_rfl) (by kernel_rfl) (by exact fun _ _ _ h => h) (Or.inl ⟨by rfl, ?_⟩) (by assumption) ?_
          rotate_left
          · intro w hSw; (try dsimp only at hSw); go_simp; (try with_reducible rfl)
          try simp only [Act.put, List.setIfInBounds_toArray, List.set_cons_zero, List.set_cons_succ]
          refine wpAnyH_take (i := 1) (v := ?_) (by simp only [List.getElem?_toArray, List.getElem?_cons_zero, List.getElem?_cons_succ]; rfl) (by kernel_rfl) (by kernel_rfl) (by kernel_rfl) (by exact fun _ _ _ h => h) (Or.inl ⟨by rfl, ?_⟩) (by assumption) ?_
          rotate_left
          · intro w hSw; (try dsimp only at hSw); go_simp; (try with_reducible rfl)
          try simp only [Act.put, List.setIfInBounds_toArray, List.set_cons_zero, List.set_cons_succ]
          refine wpAnyH_take (i := 2) (v := ?_) (by simp only [List.getElem?_toArray, List.getElem?_cons_zero, List.getElem?_cons_succ]; rfl) (by kernel_rfl) (by kernel_rfl) (by kernel_rfl) (by exact fun _ _ _ h => h) (Or.inl ⟨by rfl, ?_⟩) (by assumption) ?_
          rotate_left
          · intro w hSw; (try dsimp only at hSw); go_simp; (try with_reducible rfl)
          try simp only [Act.put, List.setIfInBounds_toArray, List.set_cons_zero, List.set_cons_succ]
          refine wpAnyH_take (i := 4) (v := ?_) (by simp only [List.getElem?_toArray, List.getElem?_cons_zero, List.getElem?_cons_succ]; rfl) (by kernel_rfl) (by kernel_rfl) (by kernel_rfl) (by exact fun _ _ _ h => h) (Or.inl ⟨by rfl, ?_⟩) (by assumption) ?_
          rotate_left
          · intro w hSw; (try dsimp only at hSw); go_simp; (try with_reducible rfl)
          try simp only [Act.put, List.setIfInBounds_toArray, List.set_cons_zero, List.set_cons_succ]
          refine wpAnyH_take (i := 5) (v := ?_) (by simp only [List.getElem?_toArray, List.getElem?_cons_zero, List.getElem?_cons_succ]; rfl) (by kernel_rfl) (by kernel_rfl) (by kernel_rfl) (by exact fun _ _ _ h => h) (Or.inl ⟨by rfl, ?_⟩) (by assumption) ?_
          rotate_left
          · intro w hSw; (try dsimp only at hSw); go_simp; (try with_reducible rfl)
          try simp only [Act.put, List.setIfInBounds_toArray, List.set_cons_zero, List.set_cons_succ]
          refine wpAnyH_take (i := 6) (v := ?_) (by simp only [List.getElem?_toArray, List.getElem?_cons_zero, List.getElem?_cons_succ]; rfl) (by kernel_rfl) (by kernel_rfl) (by kernel_rfl) (by exact fun _ _ _ h => h) (Or.inl ⟨by rfl, ?_⟩) (by assumption) ?_
          rotate_left
          · intro w hSw; (try dsimp only at hSw); go_simp; (try with_reducible rfl)
          try simp only [Act.put, List.setIfInBounds_toArray, List.set_cons_zero, List.set_cons_succ]
          refine wpAnyH_take (i := 7) (v := ?_) (by simp only [List.getElem?_toArray, List.getElem?_cons_zero, List.getElem?_cons_succ]; rfl) (by kernel_rfl) (by kernel_rfl) (by kernel_rfl) (by exact fun _ _ _ h => h) (Or.inl ⟨by rfl, ?_⟩) (by assumption) ?_
          rotate_left
          · intro w hSw; (try dsimp only at hSw); go_simp; (try with_reducible rfl)
          try simp only [Act.put, List.setIfInBounds_toArray, List.set_cons_zero, List.set_cons_succ]
          refine wpAnyH_ready (rs := [3, 8]) (by kernel_rfl) (by simp) ?_
          refine AllReadyH.cons (by simp only [List.getElem?_toArray, List.getElem?_cons_zero, List.getElem?_cons_succ]; rfl) (fun K hK => ?_) ?_
          · rw [if_pos (by rfl)]
            refine wp_makeB _ _ rfl (h) rfl rfl (by omega) ?_
            intro v1 r1 c1 l1
            have hB1 := hB0.trans (c1.mono hB0.size)
            refine hK.out _ _ (hB1) (fun hHeld => ?_)
            clear hK K
            try simp only [Act.put, List.setIfInBounds_toArray, List.set_cons_zero, List.set_cons_succ]
            refine wpAnyH_ready (rs := [8]) (by kernel_rfl) (by simp) ?_
            refine AllReadyH.cons (by simp only [List.getElem?_toArray, List.getElem?_cons_zero, List.getElem?_cons_succ]; rfl) (fun K hK => ?_) AllReadyH.nil
            rw [if_pos (by rfl)]
            refine wp_makeB _ _ rfl (g) rfl rfl (by omega) ?_
            intro v2 r2 c2 l2
            have hB2 := hB1.trans (c2.mono hB1.size)
            have hz1 : BsZ.ok v2 ⟨some ⟨W0.heap.size, 0, none⟩, h, List.replicate (h) 0⟩ := ⟨by simp, r1.below (Nat.le_refl _) c2⟩
            have hz2 : BsZ.ok v2 ⟨some ⟨v1.heap.size, 0, none⟩, g, List.replicate (g) 0⟩ := ⟨by simp, r2⟩
            have hlit := lit_two v2 _ _ hz1 hz2
            unfold BsZ.val at hlit
            simp only [List.length_replicate] at hlit
            have hD2 := (HD0.out.below (c1.trans (c2.mono c1.size))).alloc (.cells #[.slice (some ⟨W0.heap.size, 0, none⟩) (h) (h), .slice (some ⟨v1.heap.size, 0, none⟩) (g) (g)] 29)
            have hsz := c1.size
            have hsz2 := c2.size
            have hfr : FreeS S (some ⟨v2.heap.size, 0, none⟩) [⟨some ⟨W0.heap.size, 0, none⟩, h, List.replicate (h) 0⟩, ⟨some ⟨v1.heap.size, 0, none⟩, g, List.replicate (g) 0⟩] := by
              refine FreeS.new (w := W0) (fun k hk => (C.foot HD0.out.at_ k hk).2) (fun ad e => ?_) (fun z hz ad e => ?_)
              · injection e with e; rw [← e]; show W0.heap.size ≤ v2.heap.size; omega
              · rcases List.mem_cons.1 hz with rfl | hz
                · injection e with e; rw [← e]; show W0.heap.size ≤ W0.heap.size; omega
                · rw [List.mem_singleton.1 hz] at e
                  injection e with e; rw [← e]; show W0.heap.size ≤ v1.heap.size; omega
            have hcl : (catS [⟨some ⟨W0.heap.size, 0, none⟩, h, List.replicate (h) 0⟩, ⟨some ⟨v1.heap.size, 0, none⟩, g, List.replicate (g) 0⟩]).length = x := by have := HHg.out; simp [catS]; omega
            have hA := hD2.appFull (some ⟨v2.heap.size, 0, none⟩) 2 _ hlit hfr (Nat.le_refl _) (by show 2 ≤ 1000; decide) (by rw [hcl]; omega) (by rw [HBs.out]; omega) (by rw [HBs.out, hcl]; exact hfit)
            obtain ⟨cs, hcs⟩ : ∃ cs, catS [⟨some ⟨W0.heap.size, 0, none⟩, h, List.replicate (h) 0⟩, ⟨some ⟨v1.heap.size, 0, none⟩, g, List.replicate (g) 0⟩] = cs := ⟨_, rfl⟩
            rw [hcs] at hcl
            have HCl := Lib.hid hcl
            have HA := Lib.hid hA
            have hB3 := hD2.bel
            clear hA hcl hcs hlit hz1 hz2 hfr hD2 r1 r2 hsz hsz2
            refine hK.out _ _ (hB2) (fun hHeld => ?_)
            clear hK K
            try simp only [Act.put, List.setIfInBounds_toArray, List.set_cons_zero, List.set_cons_succ]
            refine wpAnyH_ready (rs := [9]) (by kernel_rfl) (by simp) ?_
            refine AllReadyH.cons (by simp only [List.getElem?_toArray, List.getElem?_cons_zero, List.getElem?_cons_succ]; rfl) (fun K hK => ?_) AllReadyH.nil
            go_simp
            refine hK.out _ _ (hB3) (fun hHeld => ?_)
            clear hK K
            try simp only [Act.put, List.setIfInBounds_toArray, List.set_cons_zero, List.set_cons_succ]
            refine wpAnyH_ready (rs := [10]) (by kernel_rfl) (by simp) ?_
            refine AllReadyH.cons (by simp only [List.getElem?_toArray, List.getElem?_cons_zero, List.getElem?_cons_succ]; rfl) (fun K hK => ?_) AllReadyH.nil
            go_simp
            refine HA.out.mono ?_
            rintro e y1 ⟨S2, rfl, a2⟩
            have hB4 := a2.bel
            have HD2 := Lib.hid a2
            clear a2
            go_wp2_with fail
            refine hK.out _ _ (hB4) (fun hHeld => ?_)
            clear hK K
            try simp only [Act.put, List.setIfInBounds_toArray, List.set_cons_zero, List.set_cons_succ]
            refine wpAnyH_take (i := 11) (v := ?_) (by simp only [List.getElem?_toArray, List.getElem?_cons_zero, List.getElem?_cons_succ]; rfl) (by kernel_rfl) (by kernel_rfl) (by kernel_rfl) (by exact fun _ _ _ h => h) (Or.inl ⟨by rfl, ?_⟩) (by assumption) ?_
            rotate_left
            · intro w hSw; (try dsimp only at hSw); go_simp; (try with_reducible rfl)
            try simp only [Act.put, List.setIfInBounds_toArray, List.set_cons_zero, List.set_cons_succ]
            refine wpAnyH_done (by kernel_rfl) ?_ _
            have hbl : bs.length = u := by exact HBs.out
            have HBl := Lib.hid hbl
            have HL := Lib.hid (HD2.out.len u hbl)
            clear hbl HD0 hB1 hB2 hB3 hB4 hB0 HA
            go_wp2_with fail
            refine HL.out.mono ?_
            rintro e y2 ⟨rfl, a3, _⟩
            have HLf := Lib.hid (a3.left (q - u) (by rw [HBl.out]))
            clear a3 HL HD2
            go_wp2_with fail
            refine HLf.out.mono ?_
            rintro e y3 ⟨rfl, a4, _⟩
            have HSf := Lib.hid a4.safe
            have hqu : ((q - u : Nat) : Int) = (q : Int) - ((u : Int)) := by omega
            clear a4 HLf
            go_wp2_with fail
            refine HSf.out.mono ?_
            rintro e y4 ⟨rfl, a5, _⟩
            have HD5 := Lib.hid a5
            clear a5 HSf
            go_wp2_with fail
            go_roundw
            case rel => exact ⟨k + 1, u, bs, S2, rfl, by go_num, by omega, HBl.out, by omega, HD5.out⟩
            case measure => simp [intOf]; omega
          · refine AllReadyH.cons (by simp only [List.getElem?_toArray, List.getElem?_cons_zero, List.getElem?_cons_succ]; rfl) (fun K hK => ?_) AllReadyH.nil
            rw [if_pos (by rfl)]
            refine wp_makeB _ _ rfl (g) rfl rfl (by omega) ?_
            intro v1 r1 c1 l1
            have hB1 := hB0.trans (c1.mono hB0.size)
            refine hK.out _ _ (hB1) (fun hHeld => ?_)
            clear hK K
            try simp only [Act.put, List.setIfInBounds_toArray, List.set_cons_zero, List.set_cons_succ]
            refine wpAnyH_ready (rs := [3]) (by kernel_rfl) (by simp) ?_
            refine AllReadyH.cons (by simp only [List.getElem?_toArray, List.getElem?_cons_zero, List.getElem?_cons_succ]; rfl) (fun K hK => ?_) AllReadyH.nil
            rw [if_pos (by rfl)]
            refine wp_makeB _ _ rfl (h) rfl rfl (by omega) ?_
            intro v2 r2 c2 l2
            have hB2 := hB1.trans (c2.mono hB1.size)
            have hz1 : BsZ.ok v2 ⟨some ⟨v1.heap.size, 0, none⟩, h, List.replicate (h) 0⟩ := ⟨by simp, r2⟩
            have hz2 : BsZ.ok v2 ⟨some ⟨W0.heap.size, 0, none⟩, g, List.replicate (g) 0⟩ := ⟨by simp, r1.below (Nat.le_refl _) c2⟩
            have hlit := lit_two v2 _ _ hz1 hz2
            unfold BsZ.val at hlit
            simp only [List.length_replicate] at hlit
            have hD2 := (HD0.out.below (c1.trans (c2.mono c1.size))).alloc (.cells #[.slice (some ⟨v1.heap.size, 0, none⟩) (h) (h), .slice (some ⟨W0.heap.size, 0, none⟩) (g) (g)] 29)
            have hsz := c1.size
            have hsz2 := c2.size
            have hfr : FreeS S (some ⟨v2.heap.size, 0, none⟩) [⟨some ⟨v1.heap.size, 0, none⟩, h, List.replicate (h) 0⟩, ⟨some ⟨W0.heap.size, 0, none⟩, g, List.replicate (g) 0⟩] := by
              refine FreeS.new (w := W0) (fun k hk => (C.foot HD0.out.at_ k hk).2) (fun ad e => ?_) (fun z hz ad e => ?_)
              · injection e with e; rw [← e]; show W0.heap.size ≤ v2.heap.size; omega
              · rcases List.mem_cons.1 hz with rfl | hz
                · injection e with e; rw [← e]; show W0.heap.size ≤ v1.heap.size; omega
                · rw [List.mem_singleton.1 hz] at e
                  injection e with e; rw [← e]; show W0.heap.size ≤ W0.heap.size; omega
            have hcl : (catS [⟨some ⟨v1.heap.size, 0, none⟩, h, List.replicate (h) 0⟩, ⟨some ⟨W0.heap.size, 0, none⟩, g, List.replicate (g) 0⟩]).length = x := by have := HHg.out; simp [catS]; omega
            have hA := hD2.appFull (some ⟨v2.heap.size, 0, none⟩) 2 _ hlit hfr (Nat.le_refl _) (by show 2 ≤ 1000; decide) (by rw [hcl]; omega) (by rw [HBs.out]; omega) (by rw [HBs.out, hcl]; exact hfit)
            obtain ⟨cs, hcs⟩ : ∃ cs, catS [⟨some ⟨v1.heap.size, 0, none⟩, h, List.replicate (h) 0⟩, ⟨some ⟨W0.heap.size, 0, none⟩, g, List.replicate (g) 0⟩] = cs := ⟨_, rfl⟩
            rw [hcs] at hcl
            have HCl := Lib.hid hcl
            have HA := Lib.hid hA
            have hB3 := hD2.bel
            clear hA hcl hcs hlit hz1 hz2 hfr hD2 r1 r2 hsz hsz2
            refine hK.out _ _ (hB2) (fun hHeld => ?_)
            clear hK K
            try simp only [Act.put, List.setIfInBounds_toArray, List.set_cons_zero, List.set_cons_succ]
            refine wpAnyH_ready (rs := [9]) (by kernel_rfl) (by simp) ?_
            refine AllReadyH.cons (by simp only [List.getElem?_toArray, List.getElem?_cons_zero, List.getElem?_cons_succ]; rfl) (fun K hK => ?_) AllReadyH.nil
            go_simp
            refine hK.out _ _ (hB3) (fun hHeld => ?_)
            clear hK K
            try simp only [Act.put, List.setIfInBounds_toArray, List.set_cons_zero, List.set_cons_succ]
            refine wpAnyH_ready (rs := [10]) (by kernel_rfl) (by simp) ?_
            refine AllReadyH.cons (by simp only [List.getElem?_toArray, List.getElem?_cons_zero, List.getElem?_cons_succ]; rfl) (fun K hK => ?_) AllReadyH.nil
            go_simp
            refine HA.out.mono ?_
            rintro e y1 ⟨S2, rfl, a2⟩
            have hB4 := a2.bel
            have HD2 := Lib.hid a2
            clear a2
            go_wp2_with fail
            refine hK.out _ _ (hB4) (fun hHeld => ?_)
            clear hK K
            try simp only [Act.put, List.setIfInBounds_toArray, List.set_cons_zero, List.set_cons_succ]
            refine wpAnyH_take (i := 11) (v := ?_) (by simp only [List.getElem?_toArray, List.getElem?_cons_zero, List.getElem?_cons_succ]; rfl) (by kernel_rfl) (by kernel_rfl) (by kernel_rfl) (by exact fun _ _ _ h => h) (Or.inl ⟨by rfl, ?_⟩) (by assumption) ?_
            rotate_left
            · intro w hSw; (try dsimp only at hSw); go_simp; (try with_reducible rfl)
            try simp only [Act.put, List.setIfInBounds_toArray, List.set_cons_zero, List.set_cons_succ]
            refine wpAnyH_done (by kernel_rfl) ?_ _
            have hbl : bs.length = u := by exact HBs.out
            have HBl := Lib.hid hbl
            have HL := Lib.hid (HD2.out.len u hbl)
            clear hbl HD0 hB1 hB2 hB3 hB4 hB0 HA
            go_wp2_with fail
            refine HL.out.mono ?_
            rintro e y2 ⟨rfl, a3, _⟩
            have HLf := Lib.hid (a3.left (q - u) (by rw [HBl.out]))
            clear a3 HL HD2
            go_wp2_with fail
            refine HLf.out.mono ?_
            rintro e y3 ⟨rfl, a4, _⟩
            have HSf := Lib.hid a4.safe
            have hqu : ((q - u : Nat) : Int) = (q : Int) - ((u : Int)) := by omega
            clear a4 HLf
            go_wp2_with fail
            refine HSf.out.mono ?_
            rintro e y4 ⟨rfl, a5, _⟩
            have HD5 := Lib.hid a5
            clear a5 HSf
            go_wp2_with fail
            go_roundw
            case rel => exact ⟨k + 1, u, bs, S2, rfl, by go_num, by omega, HBl.out, by omega, HD5.out⟩
            case measure => simp [intOf]; omega
      · obtain rfl : k = z1.length := by omega
        have HF := Lib.hid (HD.out.flush u HBs.out)
        clear HD
        go_wp2_with fail
        refine HF.out.mono ?_
        rintro e x3 ⟨S3, rfl, a3⟩
        have HS := Lib.hid a3.safe
        clear HF a3
        go_wp2_with fail
        refine HS.out.mono ?_
        rintro e x4 ⟨rfl, a4, _⟩
        have HD4 := Lib.hid a4
        have hsub : ((q : Int) - (u : Int)) = ((q - u : Nat) : Int) := by omega
        obtain ⟨w5, hmk, r5, b5, l5⟩ := run_makeB x4 (q - u) (by omega)
        clear a4
        have HD5 := Lib.hid (HD4.out.below b5)
        have hA := HD5.out.app1 (some ⟨x4.heap.size, 0, none⟩) (q - u) (List.replicate (q - u) 0) r5 (fun _ ad e hs => by
          injection e with e
          have := (C.foot HD4.out.at_ _ hs).2
          rw [← e] at this
          exact Nat.lt_irrefl _ this) (by simp) (by simp; omega) (by rw [HBs.out]; omega) (by rw [HBs.out, List.length_replicate]; omega) (q - u) (by simp)
        have HA := Lib.hid hA
        clear r5 b5 l5 hA HS
        go_wp2_with fail
        refine HA.out.mono ?_
        rintro e x6 ⟨S6, rfl, a6⟩
        have hbl : (bs ++ List.replicate (q - u) (0 : UInt8)).length = q := by rw [List.length_append, HBs.out, List.length_replicate]; omega
        have HBl := Lib.hid hbl
        have HL := Lib.hid (a6.left 0 (by rw [hbl]; omega))
        clear a6 HA hbl
        go_wp2_with fail
        refine HL.out.mono ?_
        rintro e x7 ⟨rfl, a7, _⟩
        have hB := (a7.alloc (.cells #[.int .u8 1] 5)).app1Full (some ⟨x7.heap.size, 0, none⟩) 1 [1] (LayG.Rd.lit (L := layB) (E := 5) x7 #[.int .u8 1] [1] rfl (by decide)) (fun _ ad e hs => by
          injection e with e
          have := (C.foot a7.at_ _ hs).2
          rw [← e] at this
          exact Nat.lt_irrefl _ this) (Nat.le_refl _) (by decide) (by rw [HBl.out]; omega) (by rw [HBl.out]; show ¬ q + 1 ≤ q; omega) 1 rfl
        rw [show (x7.alloc (.cells #[.int .u8 1] 5)).heap.size = x7.heap.size + 1 from by simp] at hB
        have HB := Lib.hid hB
        clear a7 hB HL
        go_wp2_with fail
        refine HB.out.mono ?_
        rintro e x8 ⟨S8, rfl, a8⟩
        go_wp2_with fail
        go_ret
        exact ⟨rfl, a8.bel⟩

set_option maxRecDepth 100000 in
theorem lifted (os : Os) (started : os.Started) (H : Type) (enc : TypeId × Value → H) :
    ReturnsInHanded {} Try.checked os 5 .any (Rows.diskRoomsSpec.pre6 enc Try.prog Try.f5 Rows.diskRoomsRow.domain false) (Rows.diskRoomsSpec.post enc Try.prog Try.f5 false true false false) := by
  refine returnsInHanded_of_change (C := Try.checked) own started (by kernel_rfl) Try.func5
    (ChangeSpec.witness6 (enc := enc) (C := Try.checked) false ⟨#[], #[.int .i64 0, .slice none 0 0], []⟩ 8 (by kernel_rfl) (by kernel_rfl) (by kernel_rfl) (by kernel_rfl)) ?_
  intro W base args ds gs before hval0 hW hcnd _
  have hval : ∀ (j : Nat) t v, Try.f5.params[j]? = some t → args[j]? = some v → Value.okWide Try.prog W .any base t v := hval0
  have hW' := hW
  obtain ⟨p, q, hA0, hV, rfl, hfz, hnd⟩ := hW
  have hA : DataW.TrodAll enc Try.prog W 0 (fun _ => true) true Try.f5.params.toList args.toList ds p := hA0
  rw [Try.params5] at hA hval
  obtain ⟨v0, vs0, d0, ds0, p0, q0, hargs, rfl, rfl, h0, r0⟩ := trodAll_cons hA
  obtain ⟨v1, vs1, d1, ds1, p1, q1, rfl, rfl, rfl, h1, r1⟩ := trodAll_cons r0
  obtain ⟨rfl, rfl, rfl⟩ := trodAll_nil r1
  obtain rfl : args = #[v0, v1] := by cases args; simp_all
  obtain ⟨rfl, rfl⟩ := trodVars_none hV
  obtain ⟨a0, rfl, rfl, rfl, w0⟩ := open_int Try.underlying3 (hval 0 3 v0 rfl rfl) h0
  obtain ⟨a1, l1, c1, rfl⟩ := okWide_slice Try.underlying44 (hval 1 44 v1 rfl rfl)
  have k1 := h1
  have lt1 : ∀ x ∈ p1, x.block < W.heap.size := by obtain ⟨m, hm⟩ := k1; exact DataW.trod_lt m _ _ _ hm
  obtain ⟨z1, w1⟩ : ∃ zs, SlcI W a1 l1 c1 zs := by
    obtain ⟨fuel, hf⟩ := h1
    rcases open_ints Try.underlying44 Try.underlying3 (by kernel_rfl) hf with ⟨hcs, _⟩ | ⟨x, l, c, zs, hcs, _, hl, hm, hz, _, hcell, hwz⟩
    · simp [Value.cells] at hcs
      obtain ⟨rfl, rfl, rfl⟩ := hcs
      exact ⟨[], SlcI.none_ W⟩
    · simp [Value.cells] at hcs
      obtain ⟨rfl, rfl, rfl⟩ := hcs
      exact ⟨_, SlcI.some_ hl (by simpa using hz) hcell hwz⟩
  clear hA0 hval0
  refine (walk a0 a1 l1 c1 z1 w0 W w1).mono fun e W' ⟨he, bel⟩ => ?_
  subst he
  exact ⟨_, rfl, _, _, _, [], _, [], hW', trodAll_mk1 (shut_bool Try.underlying4 _), (trodAll_cons_mk (shut_int Try.underlying3 w0) (trodAll_cons_mk (Below.trod laidOut (by kernel_rfl) (of_decide_eq_true (by kernel_rfl)) k1 bel lt1) trodAll_mk0)), rfl, bel.frame _, fun h => by cases h⟩

theorem over : Rows.diskRoomsRow.holds Try.pinned (OpenSpec.ofChange Rows.diskRoomsSpec) :=
  OpenClaim.holds_of_wide 5 Try.f5 rfl rfl rfl rfl rfl rfl rfl ⟨rfl, rfl, rfl, rfl, rfl⟩ rfl rfl rfl rfl rfl (by kernel_rfl) Try.func5 (by kernel_rfl)
    (of_decide_eq_true (by kernel_rfl)) (by unfold Func.isWrapper; first | (rw [if_pos (by decide +kernel)]; kernel_rfl) | (rw [if_neg (by decide +kernel)]; exact ⟨rfl, rfl⟩))
    (fun os started H enc _ => lifted os started H enc)
theorem proved : Rows.DiskRoomsSaid := over
end Go.Proofs.Ytebebbehiegleaa.diskRooms
