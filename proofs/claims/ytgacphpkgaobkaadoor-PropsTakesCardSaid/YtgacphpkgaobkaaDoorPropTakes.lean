/- What bytes begin with: the code's own, one property. What bytes begin with: the code's own Take. A region that draws: operations that their guards pass over come up together, in one step. What bytes begin with: the document's own Take of lists. Plain Lean: what is taken of bytes is a right list, and no longer than they. -/
import Derived.Test.YtgacphpkgaobkaaDoorPropLaws3
import Derived.Test.YtgacphpkgaobkaaDoorProg
import Derived.Deep.RegionHeld3
set_option linter.unusedVariables false
namespace Go.Proofs.YtgacphpkgaobkaaDoor
open Go Go.RowKit

def oneP (p : ByteArray) (bs : List UInt8) : Int × Nat × Prop4 :=
  if bs.length = 0 then (20, 0, Prop4.no) else
  if bs.length < 1 + (bs.getD 0 0).toNat then (20, 0, Prop4.no) else
  if climbB p (keyAt bs 0) = false then (30, 0, Prop4.no) else
  let t := tvP (bs.drop (1 + (bs.getD 0 0).toNat))
  if t.2.2 ≠ 0 then (t.2.2, 0, Prop4.no) else (0, 1 + (bs.getD 0 0).toNat + t.2.1, (keyAt bs 0, t.1))
def OnePost (w : World) (N : Nat) (r : Int × Nat × Prop4) (e : Ending) (w' : World) : Prop :=
  e = .returned (.tuple #[propV r.2.2, .int .i64 (r.2.1 : Nat), .int .i64 r.1]) ∧ (r.1 = 0 → w'.cell? { block := N, off := 0 } = some (.string r.2.2.1) ∧ w'.frozen? { block := N, off := 0 } = false) ∧ w.grownBy w' (some N)
theorem conv_zero (w : World) (ad : Addr) (c : Nat) : (convert 43 9 (.slice (some ad) 0 c)).run Tryd.prog w = .ok (.string ⟨#[]⟩) w :=
  run_convert_bytes_back (P := Tryd.prog) w 43 9 5 ad c [] Tryd.underlying43 Tryd.underlying5 Tryd.underlying9 (fun j hj => by simp at hj)

theorem grown_put4 {w w1 : World} {N R : Nat} (h : w.grownBy w1 (some N)) (hR : w.heap.size ≤ R) (y : Prop4) : w.grownBy (put4 w1 R 0 y) (some N) := by
  refine ⟨h.os, h.tape, h.output, by simpa [put4] using h.size, fun k hk hne => ?_⟩
  have hk2 : k ≠ R := by omega
  unfold put4
  rw [Below.heap_setCell _ _ _ k hk2, Below.heap_setCell _ _ _ k hk2, Below.heap_setCell _ _ _ k hk2, Below.heap_setCell _ _ _ k hk2]
  exact h.block k hk hne
theorem cell_put4 {W : World} {R N o : Nat} (hne : N ≠ R) (y : Prop4) : (put4 W R 0 y).cell? { block := N, off := o } = W.cell? { block := N, off := o } := by
  refine World.cell?_of_block ?_
  unfold put4
  rw [Below.heap_setCell _ _ _ N hne, Below.heap_setCell _ _ _ N hne, Below.heap_setCell _ _ _ N hne, Below.heap_setCell _ _ _ N hne]
theorem frozen_put4 {W : World} {R N o : Nat} (y : Prop4) : (put4 W R 0 y).frozen? { block := N, off := o } = W.frozen? { block := N, off := o } := by
  unfold put4
  rw [frozen_set, frozen_set, frozen_set, frozen_set]
theorem keyAt_size (bs : List UInt8) (p : Nat) : (keyAt bs p).size ≤ 255 := by
  have h1 := (bs.getD p 0).toNat_lt
  have h2 : (keyAt bs p).size = ((bs.drop (p + 1)).take (bs.getD p 0).toNat).length := by
    unfold keyAt
    rfl
  rw [h2, List.length_take]
  omega
theorem RdB.grown {w w' : World} {A : Option Addr} {bs : List UInt8} {N : Nat} (h : RdB w A bs) (hg : w.grownBy w' (some N)) (hA : ∀ ad, A = some ad → ad.block ≠ N) : RdB w' A bs := by
  intro k hk
  obtain ⟨ad, e, hlt, hc⟩ := h k hk
  exact ⟨ad, e, Nat.lt_of_lt_of_le hlt hg.size, grown_cell hg hc (by rw [add_block]; exact hA ad e)⟩
theorem climbB_nil (p : ByteArray) : climbB p ⟨#[]⟩ = false := rfl

set_option maxHeartbeats 4000000 in
set_option maxRecDepth 100000 in
theorem takeProp_any (A : Option Addr) (c : Nat) (bs : List UInt8) (p : ByteArray) (N : Nat) (w : World) (h : RdB w A bs) (hc : bs.length ≤ c) (hl : bs.length ≤ 1000000) (hp : p.size ≤ 1000000)
    (hN : w.cell? { block := N, off := 0 } = some (.string p)) (hf : w.frozen? { block := N, off := 0 } = false) (hT : Tabs w) (hAN : ∀ ad, A = some ad → ad.block ≠ N) :
    Calls Tryd.prog 45 #[.slice A bs.length c, .func (.func 58) #[] #[.pointer (some ⟨N, 0, none⟩)]] w (OnePost w N (oneP p bs)) := by
  have hNlt : N < w.heap.size := World.block_lt_of_cell? w _ hN
  have hZ := HoldP.new w ⟨#[]⟩ 0 0 ⟨#[]⟩
  have hb0 : Below w.heap.size w (w.alloc (.cells #[.string ⟨#[]⟩, .int .i64 0, .int .i64 0, .string ⟨#[]⟩] 41)) := (Below.refl _ _).alloc (Nat.le_refl _) _
  have hs0 : (w.alloc (.cells #[.string ⟨#[]⟩, .int .i64 0, .int .i64 0, .string ⟨#[]⟩] 41)).heap.size = w.heap.size + 1 := by simp
  have hrd := h.below (Nat.le_refl _) hb0
  have hN0 := (World.cell?_of_block (hb0.block N hNlt)).trans hN
  have hf0 := (World.frozen?_of_block (hb0.block N hNlt)).trans hf
  have hT0 := Utf8Tabs_below hT hb0
  have HZ := Lib.hid hZ
  have HRd := Lib.hid hrd
  have HN := Lib.hid hN0
  have HF := Lib.hid hf0
  have HT := Lib.hid hT0
  obtain ⟨⟨z0, z1, z2, z3⟩, y0, y1, y2, y3⟩ := hZ.at
  obtain ⟨⟨u0, u1, u2, u3⟩, _⟩ := (hZ.set4 (⟨#[]⟩, 0, 0, ⟨#[]⟩)).at
  clear h hN hf hT hrd hN0 hf0 hT0 hZ
  by_cases h0 : bs.length = 0
  · have hout : oneP p bs = (20, 0, Prop4.no) := by unfold oneP; rw [if_pos h0]
    obtain rfl : bs = [] := List.length_eq_zero_iff.1 h0
    have HO := Lib.hid hout
    clear hout h0
    go_enter Tryd.func45, Tryd.ntmps45
    go_wp2_with fail
    exact bodyPost_ret (v := .tuple #[propV Prop4.no, .int .i64 0, .int .i64 20]) (by simp [results, Tryd.results45, go_sem, propV, Prop4.no, z0, z1, z2, z3]; rfl) rfl (by rw [HO.out]; exact ⟨rfl, fun h => absurd h (by decide), grown_of_below hb0 _⟩)
  · obtain ⟨ad, rfl, hblk, hc0⟩ : ∃ ad, A = some ad ∧ ad.block < (w.alloc (.cells #[.string ⟨#[]⟩, .int .i64 0, .int .i64 0, .string ⟨#[]⟩] 41)).heap.size ∧ (w.alloc (.cells #[.string ⟨#[]⟩, .int .i64 0, .int .i64 0, .string ⟨#[]⟩] 41)).cell? ad = some (.int .u8 ((bs.getD 0 0).toNat : Int)) := by
      obtain ⟨ad, e, h1, h2⟩ := HRd.out 0 (by omega)
      refine ⟨ad, e, h1, ?_⟩
      simpa [Addr.add, u8v] using h2
    have hkb := (bs.getD 0 0).toNat_lt
    obtain ⟨k, hk⟩ : ∃ k, (bs.getD 0 0).toNat = k := ⟨_, rfl⟩
    rw [hk] at hc0 hkb
    have HK := Lib.hid hk
    have hlen0 : ((bs.length : Int) == 0) = false := by rw [beq_eq_false_iff_ne]; omega
    clear hk
    by_cases hs : bs.length < 1 + k
    · have hout : oneP p bs = (20, 0, Prop4.no) := by unfold oneP; rw [if_neg h0, HK.out, if_pos hs]
      have HO := Lib.hid hout
      have hlt : (bs.length : Int) < 1 + (k : Int) := by omega
      clear hout
      go_enter Tryd.func45, Tryd.ntmps45
      go_wp2_with fail
      exact bodyPost_ret (v := .tuple #[propV Prop4.no, .int .i64 0, .int .i64 20]) (by simp [results, Tryd.results45, go_sem, propV, Prop4.no, z0, z1, z2, z3]; rfl) rfl (by rw [HO.out]; exact ⟨rfl, fun h => absurd h (by decide), grown_of_below hb0 _⟩)
    · have hlt : ¬ ((bs.length : Int) < 1 + (k : Int)) := by omega
      have hb1 : (1 : Int) ≤ 1 + (k : Int) := by omega
      have hb2 : 1 + (k : Int) ≤ (c : Int) := by omega
      have htn : (1 + (k : Int)).toNat = 1 + k := by omega
      have hw1 : IntKind.i64.wrap (1 + (k : Int)) = 1 + (k : Int) := by rw [IntKind.wrap_i64]; omega
      have hkey0 : ∀ key b, keyAt bs 0 = key → climbB p key = b → key.size ≤ 255 := fun key b hk _ => by rw [← hk]; exact keyAt_size bs 0
      by_cases hc1 : c = 1
      · have hk0 : k = 0 := by omega
        subst hk0
        have hl1 : bs.length = 1 := by omega
        have hkey : keyAt bs 0 = ⟨#[]⟩ := by
          unfold keyAt
          rw [HK.out]
          rfl
        have hout : oneP p bs = (30, 0, Prop4.no) := by unfold oneP; rw [if_neg h0, HK.out, if_neg hs, hkey, climbB_nil, if_pos rfl]
        have HO := Lib.hid hout
        have hcv := conv_zero (w.alloc (.cells #[.string ⟨#[]⟩, .int .i64 0, .int .i64 0, .string ⟨#[]⟩] 41)) ad 0
        have cC := climb_any ⟨#[]⟩ p N _ (by decide) hp HN.out HF.out HT.out
        rw [climbB_nil] at cC
        have CC := Lib.hid cC
        have htn0 : (1 + ((0 : Nat) : Int)).toNat = 1 := by decide
        subst hc1
        clear hout cC hkey hkey0
        go_enter Tryd.func45, Tryd.ntmps45
        go_wp2_with fail
        refine CC.out.mono ?_
        rintro e w1 ⟨rfl, c1, f1, g1⟩
        have hH1 := HZ.out.block (g1.block w.heap.size (by omega) (by simp; omega))
        have HH1 := Lib.hid hH1
        clear z0 z1 z2 z3 y0 y1 y2 y3 u0 u1 u2 u3
        obtain ⟨⟨z0, z1, z2, z3⟩, y0, y1, y2, y3⟩ := hH1.at
        obtain ⟨⟨u0, u1, u2, u3⟩, _⟩ := (hH1.set4 (⟨#[]⟩, 0, 0, ⟨#[]⟩)).at
        have U0 := Lib.hid u0
        have U1 := Lib.hid u1
        have U2 := Lib.hid u2
        have U3 := Lib.hid u3
        clear hH1 u0 u1 u2 u3
        go_wp2_with fail
        have u0 := U0.out
        have u1 := U1.out
        have u2 := U2.out
        have u3 := U3.out
        simp only [put4, Nat.zero_add] at u0 u1 u2 u3
        exact bodyPost_ret (v := .tuple #[propV Prop4.no, .int .i64 0, .int .i64 30]) (by simp [results, Tryd.results45, go_sem, propV, Prop4.no, u0, u1, u2, u3]; rfl) rfl (by rw [HO.out]; exact ⟨rfl, fun h => absurd h (by decide), grown_put4 (grown_trans (grown_of_below hb0 _) g1) (Nat.le_refl _) Prop4.no⟩)
      · have hkf : ad.add 1 = { block := ad.block, off := ad.off + 1 } := add_form ad 0
        have hcv := conv_slcT HRd.out 1 k (c - 1) (by omega)
        have hkd : (⟨((bs.drop 1).take k).toArray⟩ : ByteArray) = keyAt bs 0 := by unfold keyAt; rw [HK.out]
        rw [hkf, hkd] at hcv
        obtain ⟨key, hkey⟩ : ∃ x, keyAt bs 0 = x := ⟨_, rfl⟩
        rw [hkey] at hcv
        have hks : key.size ≤ 255 := by rw [← hkey]; exact keyAt_size bs 0
        obtain ⟨b, hb⟩ : ∃ b, climbB p key = b := ⟨_, rfl⟩
        have cC := climb_any key p N _ (by omega) hp HN.out HF.out HT.out
        rw [hb] at cC
        have CC := Lib.hid cC
        have HKey := Lib.hid hkey
        have HB := Lib.hid hb
        have HOne : Hid (oneP p bs = if climbB p key = false then (30, 0, Prop4.no) else if (tvP (bs.drop (1 + k))).2.2 ≠ 0 then ((tvP (bs.drop (1 + k))).2.2, 0, Prop4.no) else (0, 1 + k + (tvP (bs.drop (1 + k))).2.1, (key, (tvP (bs.drop (1 + k))).1))) := Lib.hid (by
          unfold oneP
          rw [if_neg h0, HK.out, if_neg hs, HKey.out])
        clear cC hkey hb hkd hkf hkey0
        go_enter Tryd.func45, Tryd.ntmps45
        go_wp2_with fail
        refine CC.out.mono ?_
        rintro e w1 ⟨rfl, c1, f1, g1⟩
        have hs1 := g1.size
        rw [hs0] at hs1
        have hH1 := HZ.out.block (g1.block w.heap.size (by omega) (by simp; omega))
        have gw1 : w.grownBy w1 (some N) := grown_trans (grown_of_below hb0 _) g1
        clear z0 z1 z2 z3 y0 y1 y2 y3 u0 u1 u2 u3
        cases b
        · have hout : oneP p bs = (30, 0, Prop4.no) := by rw [HOne.out, if_pos HB.out]
          have HO := Lib.hid hout
          clear hout
          have HHa := Lib.hid hH1
          obtain ⟨⟨z0, z1, z2, z3⟩, y0, y1, y2, y3⟩ := hH1.at
          obtain ⟨⟨u0, u1, u2, u3⟩, _⟩ := (hH1.set4 (⟨#[]⟩, 0, 0, ⟨#[]⟩)).at
          have U0 := Lib.hid u0
          have U1 := Lib.hid u1
          have U2 := Lib.hid u2
          have U3 := Lib.hid u3
          clear hH1 u0 u1 u2 u3
          go_wp2_with fail
          have u0 := U0.out
          have u1 := U1.out
          have u2 := U2.out
          have u3 := U3.out
          simp only [put4, Nat.zero_add] at u0 u1 u2 u3
          exact bodyPost_ret (v := .tuple #[propV Prop4.no, .int .i64 0, .int .i64 30]) (by simp [results, Tryd.results45, go_sem, propV, Prop4.no, u0, u1, u2, u3]; rfl) rfl (by rw [HO.out]; exact ⟨rfl, fun h => absurd h (by decide), grown_put4 gw1 (Nat.le_refl _) (⟨#[]⟩, 0, 0, ⟨#[]⟩)⟩)
        · obtain ⟨T, hTv⟩ : ∃ T, tvP (bs.drop (1 + k)) = T := ⟨_, rfl⟩
          have hOne2 : oneP p bs = if T.2.2 ≠ 0 then (T.2.2, 0, Prop4.no) else (0, 1 + k + T.2.1, (key, T.1)) := by
            rw [HOne.out, if_neg (by rw [HB.out]; decide), hTv]
          have hTl : T.2.1 ≤ bs.length := by
            have := tvP_len (bs.drop (1 + k))
            rw [hTv, List.length_drop] at this
            omega
          have HOne2 := Lib.hid hOne2
          have HTv := Lib.hid hTv
          have HTl := Lib.hid hTl
          have HH1 := Lib.hid hH1
          clear hOne2 hTv hTl hH1
          have hNR : N ≠ w.heap.size := by omega
          have hrd1 := HRd.out.grown g1 hAN
          have HRd1 := Lib.hid hrd1
          clear hrd1
          have hrest : ∀ (A' : Option Addr) (l' c' : Nat), RdB w1 A' (bs.drop (1 + k)) → (bs.drop (1 + k)).length = l' → l' ≤ c' → Calls Tryd.prog 64 #[.slice A' l' c'] w1 fun e w' => e = .returned (.tuple #[valV T.1.1 T.1.2.1 T.1.2.2, .int .i64 (T.2.1 : Int), .int .i64 T.2.2]) ∧ Below w1.heap.size w1 w' := fun A' l' c' hr hl' hc' => by
            have := valTake_any A' c' (bs.drop (1 + k)) w1 hr (by omega) (by rw [List.length_drop]; omega)
            rw [takeV_tv, HTv.out, hl'] at this
            exact this
          obtain ⟨⟨tk, tn, ts⟩, tm, te⟩ := T
          dsimp only at hrest HOne2 HTl
          have hsum : IntKind.i64.wrap (1 + (k : Int) + (tm : Int)) = 1 + (k : Int) + (tm : Int) := by have := HTl.out; rw [IntKind.wrap_i64]; omega
          have HZ1 : Hid ((1 : Int) + (k : Int) + (tm : Int) = ((1 + k + tm : Nat) : Int)) := Lib.hid (by omega)
          by_cases hc2 : c = 1 + k
          · have hd0 : bs.drop (1 + k) = [] := List.drop_eq_nil_of_le (by omega)
            have hcall := hrest (some ad) 0 0 (by rw [hd0]; exact fun j hj => by simp at hj) (by rw [hd0]; rfl) (Nat.le_refl _)
            have HCall := Lib.hid hcall
            have hbl : bs.length = 1 + k := by omega
            have hT20 : (((tk, tn, ts), tm, te) : (Int × Int × ByteArray) × Nat × Int) = ((0, 0, ⟨#[]⟩), 0, 20) := by rw [← HTv.out, hd0]; rfl
            injection hT20 with e1 e2
            injection e1 with e3 e4
            injection e4 with e5 e6
            injection e2 with e7 e8
            subst e3 e5 e6 e7 e8
            have hte : ¬ ((20 : Int) = 0) := by decide
            clear hrest hcall hd0
            subst hc2
            obtain ⟨⟨z0, z1, z2, z3⟩, y0, y1, y2, y3⟩ := HH1.out.at
            go_wp2_with fail
            refine HCall.out.mono ?_
            rintro e w2 ⟨rfl, b2⟩
            have hs2 := b2.size
            have b3 : Below w1.heap.size w1 (w2.alloc (.cells #[.int .i64 0, .int .i64 0, .string ⟨#[]⟩] 36)) := b2.alloc b2.size _
            have gw3 : w.grownBy (w2.alloc (.cells #[.int .i64 0, .int .i64 0, .string ⟨#[]⟩] 36)) (some N) := grown_trans gw1 (grown_of_below b3 _)
            have hN3 := (World.cell?_of_block (b3.block N (by omega))).trans c1
            have hf3 := (World.frozen?_of_block (b3.block N (by omega))).trans f1
            have hH3 := HH1.out.below b3 (by omega)
            have hV3 := HoldV.new w2 0 0 ⟨#[]⟩
            obtain ⟨⟨v0, v1, v2⟩, _⟩ := hV3.at
            clear z0 z1 z2 z3 y0 y1 y2 y3 hV3
            dsimp only at v0 v1 v2
            unfold valV
            have hte1 : ((20 : Int) != 0) = true := by decide
            have hout : oneP p bs = (20, 0, Prop4.no) := by rw [HOne2.out, if_pos hte]
            have HO := Lib.hid hout
            clear hout
            have HHa := Lib.hid hH3
            obtain ⟨⟨z0, z1, z2, z3⟩, y0, y1, y2, y3⟩ := hH3.at
            obtain ⟨⟨u0, u1, u2, u3⟩, _⟩ := (hH3.set4 (⟨#[]⟩, 0, 0, ⟨#[]⟩)).at
            have U0 := Lib.hid u0
            have U1 := Lib.hid u1
            have U2 := Lib.hid u2
            have U3 := Lib.hid u3
            clear hH3 u0 u1 u2 u3
            go_wp2_with fail
            have u0 := U0.out
            have u1 := U1.out
            have u2 := U2.out
            have u3 := U3.out
            simp only [put4, Nat.zero_add] at u0 u1 u2 u3
            exact bodyPost_ret (v := .tuple #[propV Prop4.no, .int .i64 0, .int .i64 20]) (by simp [results, Tryd.results45, go_sem, propV, Prop4.no, u0, u1, u2, u3]; rfl) rfl (by rw [HO.out]; exact ⟨rfl, fun h => absurd h hte, grown_put4 gw3 (Nat.le_refl _) (⟨#[]⟩, 0, 0, ⟨#[]⟩)⟩)
          · have hcall := hrest (some (ad.add (1 + k))) (bs.length - (1 + k)) (c - (1 + k)) (HRd1.out.dropT (1 + k)) (by rw [List.length_drop]) (by omega)
            have HCall := Lib.hid hcall
            have hb3 : 1 + (k : Int) ≤ (bs.length : Int) := by omega
            have hb4 : (0 : Int) ≤ 1 + (k : Int) := by omega
            clear hrest hcall
            obtain ⟨⟨z0, z1, z2, z3⟩, y0, y1, y2, y3⟩ := HH1.out.at
            go_wp2_with fail
            refine HCall.out.mono ?_
            rintro e w2 ⟨rfl, b2⟩
            have hs2 := b2.size
            have b3 : Below w1.heap.size w1 (w2.alloc (.cells #[.int .i64 tk, .int .i64 tn, .string ts] 36)) := b2.alloc b2.size _
            have gw3 : w.grownBy (w2.alloc (.cells #[.int .i64 tk, .int .i64 tn, .string ts] 36)) (some N) := grown_trans gw1 (grown_of_below b3 _)
            have hN3 := (World.cell?_of_block (b3.block N (by omega))).trans c1
            have hf3 := (World.frozen?_of_block (b3.block N (by omega))).trans f1
            have hH3 := HH1.out.below b3 (by omega)
            have hV3 := HoldV.new w2 tk tn ts
            obtain ⟨⟨v0, v1, v2⟩, _⟩ := hV3.at
            clear z0 z1 z2 z3 y0 y1 y2 y3 hV3
            dsimp only at v0 v1 v2
            unfold valV
            by_cases hte : te = 0
            · subst hte
              have hout : oneP p bs = (0, 1 + k + tm, (key, tk, tn, ts)) := by rw [HOne2.out, if_neg (by simp)]
              have HO := Lib.hid hout
              clear hout
              have HHa := Lib.hid hH3
              obtain ⟨⟨z0, z1, z2, z3⟩, y0, y1, y2, y3⟩ := hH3.at
              obtain ⟨⟨u0, u1, u2, u3⟩, _⟩ := (hH3.set4 (key, tk, tn, ts)).at
              have U0 := Lib.hid u0
              have U1 := Lib.hid u1
              have U2 := Lib.hid u2
              have U3 := Lib.hid u3
              clear hH3 u0 u1 u2 u3
              go_wp2_with fail
              have u0 := U0.out
              have u1 := U1.out
              have u2 := U2.out
              have u3 := U3.out
              simp only [put4, Nat.zero_add] at u0 u1 u2 u3
              exact bodyPost_ret (v := .tuple #[.agg #[.string key, .int .i64 tk, .int .i64 tn, .string ts], .int .i64 ((1 : Int) + (k : Int) + (tm : Int)), .int .i64 0]) (by simp [results, Tryd.results45, go_sem, u0, u1, u2, u3]) rfl (by rw [HO.out]; exact ⟨by rw [HZ1.out]; rfl, fun _ => ⟨(cell_put4 hNR (key, tk, tn, ts)).trans hN3, (frozen_put4 (key, tk, tn, ts)).trans hf3⟩, grown_put4 gw3 (Nat.le_refl _) (key, tk, tn, ts)⟩)
            · have hte1 : (te != 0) = true := by simpa using hte
              have hout : oneP p bs = (te, 0, Prop4.no) := by rw [HOne2.out, if_pos hte]
              have HO := Lib.hid hout
              clear hout
              have HHa := Lib.hid hH3
              obtain ⟨⟨z0, z1, z2, z3⟩, y0, y1, y2, y3⟩ := hH3.at
              obtain ⟨⟨u0, u1, u2, u3⟩, _⟩ := (hH3.set4 (⟨#[]⟩, 0, 0, ⟨#[]⟩)).at
              have U0 := Lib.hid u0
              have U1 := Lib.hid u1
              have U2 := Lib.hid u2
              have U3 := Lib.hid u3
              clear hH3 u0 u1 u2 u3
              go_wp2_with fail
              have u0 := U0.out
              have u1 := U1.out
              have u2 := U2.out
              have u3 := U3.out
              simp only [put4, Nat.zero_add] at u0 u1 u2 u3
              exact bodyPost_ret (v := .tuple #[propV Prop4.no, .int .i64 0, .int .i64 te]) (by simp [results, Tryd.results45, go_sem, propV, Prop4.no, u0, u1, u2, u3]; rfl) rfl (by rw [HO.out]; exact ⟨rfl, fun h => absurd h hte, grown_put4 gw3 (Nat.le_refl _) (⟨#[]⟩, 0, 0, ⟨#[]⟩)⟩)

def headK (acc : List Prop4) : ByteArray := (lastK acc).getD ⟨#[]⟩
theorem headK_snoc (acc : List Prop4) (z : Prop4) : headK (acc ++ [z]) = z.1 := by
  unfold headK lastK
  rw [if_neg (by simp)]
  simp
theorem climb_head (acc : List Prop4) (key : ByteArray) : climbB (headK acc) key = (nameB key && aboveK (lastK acc) (key, 0, 0, ⟨#[]⟩)) := by
  unfold climbB headK
  cases hn : nameB key with
  | false => rfl
  | true =>
    rw [Bool.true_and, Bool.true_and]
    cases hl : lastK acc with
    | none =>
      have h1 := cmpK_empty key hn
      have h2 := cmpK_neg ByteArray.empty key
      exact decide_eq_true (by show 0 < cmpK key ByteArray.empty; omega)
    | some q =>
      show decide (0 < cmpK key q) = decide (cmpK q key < 0)
      have h2 := cmpK_neg q key
      congr 1
      apply propext
      omega
theorem getD_drop0 (bs : List UInt8) (p : Nat) : (bs.drop p).getD 0 0 = bs.getD p 0 := by
  rw [List.getD_eq_getElem?_getD, List.getD_eq_getElem?_getD, List.getElem?_drop, Nat.add_zero]
theorem keyAt_drop (bs : List UInt8) (p : Nat) : keyAt (bs.drop p) 0 = keyAt bs p := by
  unfold keyAt
  rw [getD_drop0, List.drop_drop]
theorem takeFrom_step (bs : List UInt8) (k p : Nat) (acc : List Prop4) :
    takeFrom bs (k + 1) p acc = if (oneP (headK acc) (bs.drop p)).1 ≠ 0 then ((oneP (headK acc) (bs.drop p)).1, 0, []) else takeFrom bs k (p + (oneP (headK acc) (bs.drop p)).2.1) (acc ++ [(oneP (headK acc) (bs.drop p)).2.2]) := by
  have hlen : (bs.drop p).length = bs.length - p := List.length_drop
  have hg := getD_drop0 bs p
  have hk := keyAt_drop bs p
  have hc := climb_head acc (keyAt bs p)
  have hd : (bs.drop p).drop (1 + (bs.getD p 0).toNat) = bs.drop (p + 1 + (bs.getD p 0).toNat) := by rw [List.drop_drop, Nat.add_assoc]
  have hone : oneP (headK acc) (bs.drop p) = if bs.length - p = 0 then (20, 0, Prop4.no) else if bs.length - p < 1 + (bs.getD p 0).toNat then (20, 0, Prop4.no) else
      if (nameB (keyAt bs p) && aboveK (lastK acc) (keyAt bs p, 0, 0, ⟨#[]⟩)) = false then (30, 0, Prop4.no) else
      let t := tvP (bs.drop (p + 1 + (bs.getD p 0).toNat))
      if t.2.2 ≠ 0 then (t.2.2, 0, Prop4.no) else (0, 1 + (bs.getD p 0).toNat + t.2.1, (keyAt bs p, t.1)) := by
    unfold oneP
    rw [hlen, hg, hk, hc, hd]
  obtain ⟨one, ho⟩ : ∃ one, oneP (headK acc) (bs.drop p) = one := ⟨_, rfl⟩
  rw [ho] at hone ⊢
  unfold takeFrom
  by_cases h0 : bs.length ≤ p
  · rw [if_pos h0]
    rw [if_pos (show bs.length - p = 0 by omega)] at hone
    rw [hone]
    rfl
  · rw [if_neg h0]
    rw [if_neg (show ¬ bs.length - p = 0 by omega)] at hone
    by_cases h1 : bs.length < p + 1 + (bs.getD p 0).toNat
    · rw [if_pos h1]
      rw [if_pos (show bs.length - p < 1 + (bs.getD p 0).toNat by omega)] at hone
      rw [hone]
      rfl
    · rw [if_neg h1]
      rw [if_neg (show ¬ bs.length - p < 1 + (bs.getD p 0).toNat by omega)] at hone
      cases h2 : nameB (keyAt bs p) with
      | false =>
        have h2' : nameL (runes (keyAt bs p).data.toList) = false := h2
        rw [if_pos h2']
        rw [h2, if_pos (by rfl)] at hone
        rw [hone]
        rfl
      | true =>
        have h2' : nameL (runes (keyAt bs p).data.toList) = true := h2
        rw [if_neg (by rw [h2']; decide)]
        rw [h2, Bool.true_and] at hone
        cases h3 : aboveK (lastK acc) (keyAt bs p, 0, 0, ⟨#[]⟩) with
        | false =>
          rw [if_pos rfl]
          rw [h3, if_pos rfl] at hone
          rw [hone]
          rfl
        | true =>
          rw [if_neg (by decide)]
          rw [h3, if_neg (by decide)] at hone
          obtain ⟨T, hT⟩ : ∃ T, tvP (bs.drop (p + 1 + (bs.getD p 0).toNat)) = T := ⟨_, rfl⟩
          rw [hT] at hone ⊢
          dsimp only at hone ⊢
          by_cases h4 : T.2.2 = 0
          · rw [if_neg (by simpa using h4)] at hone
            rw [if_neg (by simpa using h4), hone, if_neg (by simp), show p + 1 + (bs.getD p 0).toNat + T.2.1 = p + (1 + (bs.getD p 0).toNat + T.2.1) from by omega]
            cases k <;> rfl
          · rw [if_pos h4] at hone
            rw [if_pos h4, hone, if_pos h4]
theorem oneP_len (p : ByteArray) (bs : List UInt8) : (oneP p bs).2.1 ≤ bs.length := by
  unfold oneP
  by_cases h0 : bs.length = 0
  · rw [if_pos h0]; exact Nat.zero_le _
  · rw [if_neg h0]
    by_cases h1 : bs.length < 1 + (bs.getD 0 0).toNat
    · rw [if_pos h1]; exact Nat.zero_le _
    · rw [if_neg h1]
      by_cases h2 : climbB p (keyAt bs 0) = false
      · rw [if_pos h2]; exact Nat.zero_le _
      · rw [if_neg h2]
        by_cases h3 : (tvP (bs.drop (1 + (bs.getD 0 0).toNat))).2.2 = 0
        · simp only [h3, ne_eq, not_true_eq_false, if_false]
          have := tvP_len (bs.drop (1 + (bs.getD 0 0).toNat))
          rw [List.length_drop] at this
          omega
        · simp only [h3, ne_eq, not_false_eq_true, if_true]
          exact Nat.zero_le _
theorem oneP_key (p : ByteArray) (bs : List UInt8) (h : (oneP p bs).1 = 0) : (oneP p bs).2.2.1.size ≤ 255 := by
  unfold oneP at h ⊢
  by_cases h0 : bs.length = 0
  · rw [if_pos h0] at h; exact absurd h (by decide)
  · rw [if_neg h0] at h ⊢
    by_cases h1 : bs.length < 1 + (bs.getD 0 0).toNat
    · rw [if_pos h1] at h; exact absurd h (by decide)
    · rw [if_neg h1] at h ⊢
      by_cases h2 : climbB p (keyAt bs 0) = false
      · rw [if_pos h2] at h; exact absurd h (by decide)
      · rw [if_neg h2] at h ⊢
        by_cases h3 : (tvP (bs.drop (1 + (bs.getD 0 0).toNat))).2.2 = 0
        · simp only [h3, ne_eq, not_true_eq_false, if_false]
          exact keyAt_size bs 0
        · simp only [h3, ne_eq, not_false_eq_true, if_true] at h
def TakePost (w : World) (r : Int × Nat × List Prop4) (e : Ending) (w' : World) : Prop := ∃ v, e = .returned (.tuple #[v, .int .i64 (r.2.1 : Nat), .int .i64 r.1]) ∧ PRow w' w.heap.size v r.2.2.length r.2.2 ∧ Below w.heap.size w w'

set_option maxHeartbeats 4000000 in
set_option maxRecDepth 100000 in
theorem propsTake_any (A : Option Addr) (c : Nat) (bs : List UInt8) (w : World) (h : RdB w A bs) (hc : bs.length ≤ c) (hl : bs.length ≤ 1000000) (hT : Tabs w) :
    Calls Tryd.prog 21 #[.slice A bs.length c] w (TakePost w (takeP bs)) := by
  have HRd := Lib.hid h
  have HT := Lib.hid hT
  clear h hT
  by_cases h0 : bs.length = 0
  · have hout : takeP bs = (20, 0, []) := by unfold takeP; rw [if_pos h0]
    have HO := Lib.hid hout
    have hl0 : ((bs.length : Int) == 0) = true := by simp [h0]
    clear hout
    go_enter Tryd.func21, Tryd.ntmps21
    go_wp2_with fail
    exact bodyPost_ret (v := .tuple #[.slice none 0 0, .int .i64 0, .int .i64 20]) (by simp [results, Tryd.results21, go_sem]) rfl ⟨_, by rw [HO.out]; rfl, by rw [HO.out]; exact World.ownsRow_nil _ _ _ _, Below.refl _ _⟩
  · obtain ⟨ad, rfl, hblk, hc0⟩ : ∃ ad, A = some ad ∧ ad.block < w.heap.size ∧ w.cell? ad = some (.int .u8 ((bs.getD 0 0).toNat : Int)) := by
      obtain ⟨ad, e, h1, h2⟩ := HRd.out 0 (by omega)
      refine ⟨ad, e, h1, ?_⟩
      simpa [Addr.add, u8v] using h2
    have hkb := (bs.getD 0 0).toNat_lt
    obtain ⟨n, hn⟩ : ∃ n, (bs.getD 0 0).toNat = n := ⟨_, rfl⟩
    rw [hn] at hc0 hkb
    have HN := Lib.hid hn
    have hl0 : ((bs.length : Int) == 0) = false := by rw [beq_eq_false_iff_ne]; omega
    have hlp : (0 : Int) < (bs.length : Int) := by omega
    clear hn
    by_cases h16 : 16 < n
    · have hout : takeP bs = (10, 0, []) := by unfold takeP; rw [if_neg h0, HN.out, if_pos h16]
      have HO := Lib.hid hout
      have h16' : (16 : Int) < (n : Int) := by omega
      clear hout
      go_enter Tryd.func21, Tryd.ntmps21
      go_wp2_with fail
      exact bodyPost_ret (v := .tuple #[.slice none 0 0, .int .i64 0, .int .i64 10]) (by simp [results, Tryd.results21, go_sem]) rfl ⟨_, by rw [HO.out]; rfl, by rw [HO.out]; exact World.ownsRow_nil _ _ _ _, Below.refl _ _⟩
    · have HP : Hid (takeP bs = takeFrom bs n 1 []) := Lib.hid (by unfold takeP; rw [if_neg h0, HN.out, if_neg h16])
      have h16' : ¬ ((16 : Int) < (n : Int)) := by omega
      obtain ⟨i0, hi, hz0, hz1, hz2⟩ := info_parts prop_info
      go_enter Tryd.func21, Tryd.ntmps21
      go_wp2_with fail
      refine (climbing_any _).mono ?_
      rintro e w1 ⟨rfl, rfl⟩
      have hb0 : Below w.heap.size w (w.alloc (.cells #[.string ⟨#[]⟩] 9)) := (Below.refl _ _).alloc (Nat.le_refl _) _
      have hcN : (w.alloc (.cells #[.string ⟨#[]⟩] 9)).cell? { block := w.heap.size, off := 0 } = some (.string ⟨#[]⟩) := by rw [World.cell?_alloc_mark]; rfl
      have hfN : (w.alloc (.cells #[.string ⟨#[]⟩] 9)).frozen? { block := w.heap.size, off := 0 } = false := by unfold World.frozen?; rw [heap_alloc_new]; rfl
      go_wp2_with fail
      go_loopw [6, 7, 23] (fun xv xa xi wr => ∃ (j at1 : Nat) (v : Value) (acc : List Prop4), v = xv ∧ xa = .int .i64 (at1 : Nat) ∧ xi = .int .i64 (j : Nat) ∧ j ≤ n ∧ acc.length = j ∧ at1 ≤ bs.length ∧ 1 ≤ at1 ∧ takeFrom bs (n - j) at1 acc = takeFrom bs n 1 [] ∧ (headK acc).size ≤ 255 ∧ PRow wr (w.heap.size + 1) v acc.length acc ∧ wr.cell? { block := w.heap.size, off := 0 } = some (.string (headK acc)) ∧ wr.frozen? { block := w.heap.size, off := 0 } = false ∧ Below w.heap.size w wr) (fun _ _ xi _ => n - (intOf xi).toNat)
      case atStart => exact ⟨0, 1, _, [], rfl, rfl, rfl, Nat.zero_le _, rfl, by omega, Nat.le_refl _, rfl, by decide, World.ownsRow_nil _ _ _ _, hcN, hfN, hb0⟩
      case round =>
        obtain ⟨j, at1, v, acc, rfl, rfl, rfl, hj, haj, hat, hat1, hacc, hhk, hrow, hcw, hfw, hbw⟩ := hrel
        have hNlt : w.heap.size < wr.heap.size := World.block_lt_of_cell? wr _ hcw
        have hrdw := HRd.out.below (Nat.le_refl _) hbw
        have hal16 : acc.length ≤ 16 := by omega
        have HAJ := Lib.hid haj
        clear haj
        by_cases hlt : j < n
        · rw [show n - j = (n - (j + 1)) + 1 from by omega, takeFrom_step] at hacc
          have hAN : ∀ (m : Nat) (ae : Addr), some (ad.add m) = some ae → ae.block ≠ w.heap.size := fun m ae e => by
            injection e with e
            rw [← e, add_block]
            omega
          have hAN0 : ∀ (ae : Addr), some ad = some ae → ae.block ≠ w.heap.size := fun ae e => by
            injection e with e
            rw [← e]
            omega
          have hol := oneP_len (headK acc) (bs.drop at1)
          have hok := oneP_key (headK acc) (bs.drop at1)
          rw [List.length_drop] at hol
          obtain ⟨⟨oe, om, oz⟩, hone⟩ : ∃ r, oneP (headK acc) (bs.drop at1) = r := ⟨_, rfl⟩
          have hcall : ∀ (A' : Option Addr) (l' c' : Nat), RdB wr A' (bs.drop at1) → (bs.drop at1).length = l' → l' ≤ c' → (∀ ae, A' = some ae → ae.block ≠ w.heap.size) → Calls Tryd.prog 45 #[.slice A' l' c', .func (.func 58) #[] #[.pointer (some ⟨w.heap.size, 0, none⟩)]] wr (OnePost wr w.heap.size (oe, om, oz)) := fun A' l' c' hr hl' hc' ha => by
            have := takeProp_any A' c' (bs.drop at1) (headK acc) w.heap.size wr hr (by omega) (by rw [List.length_drop]; omega) (by omega) hcw hfw (Utf8Tabs_below HT.out hbw) ha
            rw [hl', hone] at this
            exact this
          have HOne20 : Hid (bs.drop at1 = [] → oe = 20) := Lib.hid (fun e => by
            have h1 := hone
            rw [e] at h1
            exact (congrArg Prod.fst h1).symm)
          rw [hone] at hacc hol hok
          dsimp only at hacc hol hok
          obtain ⟨oa, ok, on, os⟩ := oz
          have HCall := Lib.hid hcall
          have HAcc := Lib.hid hacc
          have HOk := Lib.hid hok
          have HRow := Lib.hid hrow
          clear hone hcall hacc hok hrow hcw hfw
          unfold OnePost propV at HCall
          dsimp only at HCall
          have ha0 : (0 : Int) ≤ (at1 : Int) := by omega
          have ha1 : (at1 : Int) ≤ (bs.length : Int) := by omega
          by_cases hc2 : c = at1
          · have hd0 : bs.drop at1 = [] := List.drop_eq_nil_of_le (by omega)
            have CC := Lib.hid (HCall.out (some ad) 0 0 (by rw [hd0]; exact fun j hj => by simp at hj) (by rw [hd0]; rfl) (Nat.le_refl _) hAN0)
            have hoe : ¬ (oe = 0) := by
              have := HOne20.out hd0
              omega
            clear hd0
            subst hc2
            go_wp2_with fail
            refine CC.out.mono ?_
            rintro e w3 ⟨rfl, hN3, g3⟩
            have hout : takeP bs = (oe, 0, []) := by
              have h1 := HAcc.out
              rw [if_pos hoe] at h1
              rw [HP.out, ← h1]
            have HO := Lib.hid hout
            have hoe1 : (oe != 0) = true := by simpa using hoe
            clear hout
            go_wp2_with fail
            exact bodyPost_ret (v := .tuple #[.slice none 0 0, .int .i64 0, .int .i64 oe]) (by simp [results, Tryd.results21, go_sem]) rfl ⟨_, by rw [HO.out]; rfl, by rw [HO.out]; exact World.ownsRow_nil _ _ _ _, (hbw.trans (below_of_grown g3 (Nat.le_refl _) hbw.size)).alloc (hbw.trans (below_of_grown g3 (Nat.le_refl _) hbw.size)).size _⟩
          · have CC := Lib.hid (HCall.out (some (ad.add at1)) (bs.length - at1) (c - at1) (hrdw.dropT at1) List.length_drop (by omega) (hAN at1))
            go_wp2_with fail
            refine CC.out.mono ?_
            rintro e w3 ⟨rfl, hN3, g3⟩
            by_cases hoe : oe = 0
            · have h1 := HAcc.out
              subst hoe
              rw [if_neg (by simp)] at h1
              have hk255 := HOk.out rfl
              have HAc2 := Lib.hid h1
              obtain ⟨hcN3, hfN3⟩ := hN3 rfl
              have hbw3 := hbw.trans (below_of_grown g3 (Nat.le_refl _) hbw.size)
              have hrow3 : PRow w3 (w.heap.size + 1) v acc.length acc := World.ownsRow.kept HRow.out g3 (by
                cases hq : v.ownBlock with
                | none => exact .inl rfl
                | some g => exact .inr (fun e => by injection e with e; have := (World.ownsRow.lt HRow.out g hq).1; omega))
              have hs3 : w.heap.size + 1 ≤ w3.heap.size := by have := g3.size; omega
              have HRow3 := Lib.hid hrow3
              have hH := HoldP.new w3 oa ok on os
              obtain ⟨⟨x0, x1, x2, x3⟩, _⟩ := hH.at
              have hsum : IntKind.i64.wrap ((at1 : Int) + (om : Int)) = (at1 : Int) + (om : Int) := by rw [IntKind.wrap_i64]; omega
              have HSum : Hid ((at1 : Int) + (om : Int) = ((at1 + om : Nat) : Int)) := Lib.hid (by omega)
              clear h1 hrow3 hH
              dsimp only at x0 x1 x2 x3 hcN3
              go_wp2_with (at_builtin; refine wpList_append_own _ rfl _ _ 22 rfl (w.heap.size + 1) 41 i0 _ 4 48 Tryd.underlying22 hi hz0 hz1 hz2 rfl (by decide) _ _ _ rfl (World.ownsRow.alloc (World.ownsRow.alloc HRow3.out _) _) ⟨w3.heap.size + 1, 0, none⟩ 1 1 (cellsP (oa, ok, on, os)) rfl rfl ?a4 (cellsP_z _) ?c4 ?d4 ?e4 ?_)
              try (case a4 => exact (HoldP.cells (z := (oa, ok, on, os)) (by
                have := HoldP.new (w3.alloc (.cells #[.string oa, .int .i64 ok, .int .i64 on, .string os] 41)) oa ok on os
                simpa using this)))
              try (case c4 => unfold maxLen; omega)
              try (case d4 => omega)
              try (case e4 => simp; omega)
              intro v4 w4 hown4 hgrow4 _
              have hlt3 := World.ownsRow.lt HRow3.out
              have hbw4 : Below w.heap.size w w4 := ((hbw3.alloc (by omega) _).alloc (by simp; omega) _).grown hgrow4 (by simp; omega) (fun k' hk' => by have := (hlt3 k' hk').1; omega)
              have hne4 : some w.heap.size ≠ v.ownBlock := fun e => by have := (hlt3 w.heap.size e.symm).1; omega
              have hblk4 : w4.heap[w.heap.size]? = w3.heap[w.heap.size]? := (hgrow4.block w.heap.size (by simp; omega) hne4).trans ((Lib.alloc_old _ _ _ (by simp; omega)).trans (Lib.alloc_old w3 _ _ (by omega)))
              have hcN4 := (World.cell?_of_block (a := { block := w.heap.size, off := 0 }) hblk4).trans hcN3
              have hfN4 := (World.frozen?_of_block (a := { block := w.heap.size, off := 0 }) hblk4).trans hfN3
              have HcN4 := Lib.hid hcN4
              have HfN4 := Lib.hid hfN4
              clear hcN3 hfN3 hcN4 hfN4 hblk4 hne4
              go_wp2_with fail
              go_roundw
              case rel =>
                refine ⟨j + 1, at1 + om, v4, acc ++ [(oa, ok, on, os)], rfl, congrArg (Value.int .i64) HSum.out, by go_num, by omega, by rw [List.length_append, HAJ.out]; rfl, by omega, by omega, HAc2.out, by rw [headK_snoc]; exact hk255, ?_, by rw [headK_snoc]; exact HcN4.out, HfN4.out, hbw4⟩
                exact PRow.snoc hown4 (by simp)
              case measure => simp [intOf]; omega
            · skip
              have hout : takeP bs = (oe, 0, []) := by
                have h1 := HAcc.out
                rw [if_pos hoe] at h1
                rw [HP.out, ← h1]
              have HO := Lib.hid hout
              have hoe1 : (oe != 0) = true := by simpa using hoe
              clear hout
              go_wp2_with fail
              exact bodyPost_ret (v := .tuple #[.slice none 0 0, .int .i64 0, .int .i64 oe]) (by simp [results, Tryd.results21, go_sem]) rfl ⟨_, by rw [HO.out]; rfl, by rw [HO.out]; exact World.ownsRow_nil _ _ _ _, (hbw.trans (below_of_grown g3 (Nat.le_refl _) hbw.size)).alloc (hbw.trans (below_of_grown g3 (Nat.le_refl _) hbw.size)).size _⟩
        · obtain rfl : j = n := by omega
          rw [Nat.sub_self] at hacc
          have hout : takeP bs = (0, at1, acc) := by rw [HP.out, ← hacc]; rfl
          have HO := Lib.hid hout
          obtain ⟨A', c', rfl, _⟩ := hrow.rd
          clear hout hacc
          go_wp2_with fail
          exact bodyPost_ret (v := .tuple #[.slice A' acc.length c', .int .i64 (at1 : Nat), .int .i64 0]) (by simp [results, Tryd.results21, go_sem]) rfl ⟨_, by rw [HO.out], by rw [HO.out]; exact hrow.base (Nat.le_succ _), hbw⟩

open Go

/-- Operations (number, slot) that are passed over, one behind the other: the state, what has come up, and whether each may come up, is free and not wanted. -/
def passA : List (Nat × Tmp) → Act → Act
  | [], a => a
  | i :: r, a => passA r (a.put (some i.2) undef)
def passL : List (Nat × Tmp) → Array Bool → Array Bool
  | [], l => l
  | i :: r, l => passL r (l.setIfInBounds i.1 true)
def passB (md : Region.Mode) (ops : Array Oper) : List (Nat × Tmp) → Array Bool → Act → Bool
  | [], _, _ => true
  | i :: r, l, a => (match ops[i.1]? with | some o => (match o.dst with | some d => d == i.2 | none => false) && !(Region.wanted o (yielded ops a.tmps)) | none => false) && (Region.free md ops l i.1 && ((Region.ready md ops l).contains i.1 && passB md ops r (l.setIfInBounds i.1 true) (a.put (some i.2) undef)))

theorem wpAnyH_pass {P : Program} {ops : Array Oper} {Q : Exit → Act → World → Prop} {md : Region.Mode} {S : World → Prop} (fuel : Nat) (hs : Region.noSelect ops = true)
    (hQ : ∀ c a (d : Tmp) w, Q (.panic c) (Act.put a (some d) undef) w → Q (.panic c) a w) {w : World} (hS : S w) :
    ∀ (js : List (Nat × Tmp)) (listed : Array Bool) (a : Act) (F : Nat), F = fuel + js.length → passB md ops js listed a = true →
      wpAnyH P md ops Q S fuel (passL js listed) (passA js a) w → wpAnyH P md ops Q S F listed a w
  | [], listed, a, F, hF, _, h => by subst hF; exact h
  | i :: r, listed, a, F, hF, hb, h => by
    unfold passB at hb
    rw [Bool.and_eq_true, Bool.and_eq_true, Bool.and_eq_true] at hb
    obtain ⟨h1, h2, h3, h4⟩ := hb
    cases ho : ops[i.1]? with
    | none => rw [ho] at h1; cases h1
    | some o =>
      rw [ho] at h1
      dsimp only at h1
      cases hd : o.dst with
      | none => rw [hd] at h1; cases h1
      | some d =>
        rw [hd] at h1
        dsimp only at h1
        rw [Bool.and_eq_true, Bool.not_eq_true'] at h1
        obtain ⟨h5, h6⟩ := h1
        have hdi : o.dst = some i.2 := by rw [hd]; congr 1; exact eq_of_beq h5
        have ih := wpAnyH_pass fuel hs hQ hS r (listed.setIfInBounds i.1 true) (a.put (some i.2) undef) (fuel + r.length) rfl h4 h
        subst hF
        refine wpAnyH_take (v := undef) ho hs h2 h3 (fun c a' w' => by rw [hdi]; exact hQ c a' _ w') (Or.inr ⟨h6, rfl⟩) hS ?_
        rw [hdi]
        exact ih

theorem keyAt_nil {bs : List UInt8} {p : Nat} (h : (bs.getD p 0).toNat = 0) : keyAt bs p = ⟨#[]⟩ := by unfold keyAt; rw [h]; rfl

def put3P (W : World) (N : Nat) (k n : Int) (s : ByteArray) : World := ((W.setCell { block := N, off := 1 } (.int .i64 k)).setCell { block := N, off := 2 } (.int .i64 n)).setCell { block := N, off := 3 } (.string s)
theorem HoldP.put3P {W : World} {N : Nat} {z : Prop4} (h : HoldP W N z) (k n : Int) (s : ByteArray) : HoldP (put3P W N k n s) N (z.1, k, n, s) := by
  have h1 := heap_setCell_same W N 1 _ _ (.int .i64 k) h
  have h2 := heap_setCell_same _ N 2 _ _ (.int .i64 n) h1
  exact heap_setCell_same _ N 3 _ _ (.string s) h2
theorem below_put3P {B : Nat} {w W : World} {N : Nat} (h : Below B w W) (hN : B ≤ N) (k n : Int) (s : ByteArray) : Below B w (put3P W N k n s) :=
  ((h.setCell (p := ⟨N, 1, none⟩) hN _).setCell (p := ⟨N, 2, none⟩) hN _).setCell (p := ⟨N, 3, none⟩) hN _
theorem PRow.put3P {W : World} {B m : Nat} {v : Value} {zs : List Prop4} (h : PRow W B v m zs) (N : Nat) (hne : v.ownBlock ≠ some N) (k n : Int) (s : ByteArray) : PRow (put3P W N k n s) B v m zs := by
  have hg : W.grownBy (Go.Proofs.YtgacphpkgaobkaaDoor.put3P W N k n s) (some N) := grown_set (grown_set (grown_set ⟨rfl, rfl, rfl, Nat.le_refl _, fun _ _ _ => rfl⟩ _) _) _
  exact World.ownsRow.kept h hg (.inr hne)

set_option maxHeartbeats 8000000 in
set_option maxRecDepth 100000 in
theorem refTakeR_any (A : Option Addr) (c : Nat) (bs : List UInt8) (w : World) (h : RdB w A bs) (hc : bs.length ≤ c) (hl : bs.length ≤ 1000000) :
    Calls Tryd.prog 22 #[.slice A bs.length c] w (TakePost w (takeP bs)) := by
  have HRd := Lib.hid h
  clear h
  by_cases h0 : bs.length = 0
  · have hout : takeP bs = (20, 0, []) := by unfold takeP; rw [if_pos h0]
    have HO := Lib.hid hout
    have hl0 : ((bs.length : Int) == 0) = true := by simp [h0]
    clear hout
    go_enter Tryd.func22, Tryd.ntmps22
    go_wp2_with fail
    exact bodyPost_ret (v := .tuple #[.slice none 0 0, .int .i64 0, .int .i64 20]) (by simp [results, Tryd.results22, go_sem]) rfl ⟨_, by rw [HO.out]; rfl, by rw [HO.out]; exact World.ownsRow_nil _ _ _ _, Below.refl _ _⟩
  · obtain ⟨ad, rfl, hblk, hc0⟩ : ∃ ad, A = some ad ∧ ad.block < w.heap.size ∧ w.cell? ad = some (.int .u8 ((bs.getD 0 0).toNat : Int)) := by
      obtain ⟨ad, e, h1, h2⟩ := HRd.out 0 (by omega)
      refine ⟨ad, e, h1, ?_⟩
      simpa [Addr.add, u8v] using h2
    have hkb := (bs.getD 0 0).toNat_lt
    obtain ⟨n, hn⟩ : ∃ n, (bs.getD 0 0).toNat = n := ⟨_, rfl⟩
    rw [hn] at hc0 hkb
    have HN := Lib.hid hn
    have hl0 : ((bs.length : Int) == 0) = false := by rw [beq_eq_false_iff_ne]; omega
    have hlp : (0 : Int) < (bs.length : Int) := by omega
    clear hn
    by_cases h16 : 16 < n
    · have hout : takeP bs = (10, 0, []) := by unfold takeP; rw [if_neg h0, HN.out, if_pos h16]
      have HO := Lib.hid hout
      have h16' : (16 : Int) < (n : Int) := by omega
      clear hout
      go_enter Tryd.func22, Tryd.ntmps22
      go_wp2_with fail
      exact bodyPost_ret (v := .tuple #[.slice none 0 0, .int .i64 0, .int .i64 10]) (by simp [results, Tryd.results22, go_sem]) rfl ⟨_, by rw [HO.out]; rfl, by rw [HO.out]; exact World.ownsRow_nil _ _ _ _, Below.refl _ _⟩
    · have HP : Hid (takeP bs = takeFrom bs n 1 []) := Lib.hid (by unfold takeP; rw [if_neg h0, HN.out, if_neg h16])
      have h16' : ¬ ((16 : Int) < (n : Int)) := by omega
      obtain ⟨i0, hi, hz0, hz1, hz2⟩ := info_parts prop_info
      go_enter Tryd.func22, Tryd.ntmps22
      go_wp2_with fail
      go_loopw [6, 7, 8] (fun xv xa xi wr => ∃ (j at1 : Nat) (v : Value) (acc : List Prop4), v = xv ∧ xa = .int .i64 (at1 : Nat) ∧ xi = .int .i64 (j : Nat) ∧ j ≤ n ∧ acc.length = j ∧ at1 ≤ bs.length ∧ 1 ≤ at1 ∧ takeFrom bs (n - j) at1 acc = takeFrom bs n 1 [] ∧ (∀ z ∈ acc, z.1.size ≤ 255) ∧ PRow wr w.heap.size v acc.length acc ∧ Below w.heap.size w wr) (fun _ _ xi _ => n - (intOf xi).toNat)
      case atStart => exact ⟨0, 1, _, [], rfl, rfl, rfl, Nat.zero_le _, rfl, by omega, Nat.le_refl _, rfl, (fun z hz => by cases hz), World.ownsRow_nil _ _ _ _, Below.refl _ _⟩
      case round =>
        obtain ⟨j, at1, v, acc, rfl, rfl, rfl, hj, haj, hat, hat1, hacc, hks, hrow, hbw⟩ := hrel
        have hrdw := HRd.out.below (Nat.le_refl _) hbw
        have hal16 : acc.length ≤ 16 := by omega
        have HAJ := Lib.hid haj
        have HKs := Lib.hid hks
        have HRow := Lib.hid hrow
        clear haj hks hrow
        by_cases hlt : j < n
        · rw [show n - j = (n - (j + 1)) + 1 from by omega] at hacc
          have hst : takeFrom bs ((n - (j + 1)) + 1) at1 acc = (if bs.length ≤ at1 then (20, 0, []) else
            if bs.length < at1 + 1 + (bs.getD at1 0).toNat then (20, 0, []) else
            if nameL (runes (keyAt bs at1).data.toList) = false then (30, 0, []) else
            if aboveK (lastK acc) (keyAt bs at1, 0, 0, ⟨#[]⟩) = false then (30, 0, []) else
            if (tvP (bs.drop (at1 + 1 + (bs.getD at1 0).toNat))).2.2 ≠ 0 then ((tvP (bs.drop (at1 + 1 + (bs.getD at1 0).toNat))).2.2, 0, []) else
            takeFrom bs (n - (j + 1)) (at1 + 1 + (bs.getD at1 0).toNat + (tvP (bs.drop (at1 + 1 + (bs.getD at1 0).toNat))).2.1) (acc ++ [(keyAt bs at1, (tvP (bs.drop (at1 + 1 + (bs.getD at1 0).toNat))).1.1, (tvP (bs.drop (at1 + 1 + (bs.getD at1 0).toNat))).1.2.1, (tvP (bs.drop (at1 + 1 + (bs.getD at1 0).toNat))).1.2.2)])) := rfl
          rw [hst] at hacc
          clear hst
          by_cases h1 : bs.length ≤ at1
          · rw [if_pos h1] at hacc
            have hout : takeP bs = (20, 0, []) := by rw [HP.out, ← hacc]
            have HO := Lib.hid hout
            clear hout hacc
            go_wp2_with fail
            exact bodyPost_ret (v := .tuple #[.slice none 0 0, .int .i64 0, .int .i64 20]) (by simp [results, Tryd.results22, go_sem]) rfl ⟨_, by rw [HO.out]; rfl, by rw [HO.out]; exact World.ownsRow_nil _ _ _ _, hbw⟩
          · rw [if_neg h1] at hacc
            obtain ⟨ae, hae, hblk1, hcell⟩ := hrdw at1 (by omega)
            obtain rfl : ad = ae := by injection hae
            unfold u8v at hcell
            have hkl := (bs.getD at1 0).toNat_lt
            have hcv0 := fun cap => conv_slcT hrdw (at1 + 1) (bs.getD at1 0).toNat cap
            have hkn : (bs.getD at1 0).toNat = 0 → keyAt bs at1 = ⟨#[]⟩ := keyAt_nil
            have hksz := keyAt_size bs at1
            change ∀ cap, _ → (convert _ _ _).run _ _ = .ok (.string (keyAt bs at1)) _ at hcv0
            obtain ⟨L, hL⟩ : ∃ L, (bs.getD at1 0).toNat = L := ⟨_, rfl⟩
            obtain ⟨key, hkey⟩ : ∃ x, keyAt bs at1 = x := ⟨_, rfl⟩
            rw [hL, hkey] at hacc hkn
            rw [hL] at hcell hkl hcv0
            rw [hkey] at hcv0 hksz
            clear hL hkey hae
            by_cases h2 : bs.length < at1 + 1 + L
            · rw [if_pos h2] at hacc
              have hout : takeP bs = (20, 0, []) := by rw [HP.out, ← hacc]
              have HO := Lib.hid hout
              clear hout hacc hcv0
              go_wp2_with fail
              exact bodyPost_ret (v := .tuple #[.slice none 0 0, .int .i64 0, .int .i64 20]) (by simp [results, Tryd.results22, go_sem]) rfl ⟨_, by rw [HO.out]; rfl, by rw [HO.out]; exact World.ownsRow_nil _ _ _ _, hbw⟩
            · rw [if_neg h2] at hacc
              have hcv : (convert 43 9 (if c = at1 + 1 then .slice (some ad) L 0 else .slice (some { block := ad.block, off := ad.off + (at1 + 1) }) L (c - (at1 + 1)))).run Tryd.prog wr = .ok (.string key) wr := by
                by_cases hca : c = at1 + 1
                · rw [if_pos hca]
                  have hL0 : L = 0 := by omega
                  rw [hL0, hkn hL0]
                  exact conv_zero wr ad 0
                · rw [if_neg hca]
                  have := hcv0 (c - (at1 + 1)) (by omega)
                  rw [add_form] at this
                  exact this
              have HAcc := Lib.hid hacc
              clear hcv0 hacc
              by_cases hca : c = at1 + 1
              · rw [if_pos hca] at hcv
                have hL0 : L = 0 := by omega
                have hk0 := hkn hL0
                have hbn : nameL (runes key.data.toList) = false := by rw [hk0]; decide
                have hout : takeP bs = (30, 0, []) := by
                  have h1 := HAcc.out
                  rw [if_pos hbn] at h1
                  rw [HP.out, ← h1]
                have HO := Lib.hid hout
                have cN := fun W => refRight_any key W (by omega)
                rw [hbn] at cN
                have CN := Lib.hid cN
                have hcv1 : (convert 43 9 (.slice (some ad) 0 0)).run Tryd.prog wr = .ok (.string key) wr := by rw [hk0]; exact conv_zero wr ad 0
                clear hout cN hbn hk0 hkn hcv
                subst hL0
                have x0 : (wr.alloc (.cells #[.string key, .int .i64 0, .int .i64 0, .string ⟨#[]⟩] 41)).cell? { block := wr.heap.size, off := 0 } = some (.string key) := by rw [World.cell?_alloc_mark]; rfl
                have dd : Below (wr.alloc (.cells #[.string key, .int .i64 0, .int .i64 0, .string ⟨#[]⟩] 41)).heap.size (wr.alloc (.cells #[.string key, .int .i64 0, .int .i64 0, .string ⟨#[]⟩] 41)) (wr.alloc (.cells #[.string key, .int .i64 0, .int .i64 0, .string ⟨#[]⟩] 41)).drew := (Below.refl _ (wr.alloc (.cells #[.string key, .int .i64 0, .int .i64 0, .string ⟨#[]⟩] 41))).drew
                have hnn : ((none : Option Bool) == some true) = false := rfl
                have hXl : wr.heap.size < (wr.alloc (.cells #[.string key, .int .i64 0, .int .i64 0, .string ⟨#[]⟩] 41)).heap.size := by simp
                go_wp2_with fail
                refine wp_region_held_drew (S := fun w' => w'.cell? { block := wr.heap.size, off := 0 } = some (.string key)) (by kernel_rfl) x0 (fun hHeld => ?_)
                refine wpAnyH_take (i := 0) (v := ?_) (by simp only [List.getElem?_toArray, List.getElem?_cons_zero]; rfl) (by kernel_rfl) (by kernel_rfl) (by kernel_rfl) (by exact fun _ _ _ h => h) (Or.inl ⟨by rfl, ?_⟩) (by assumption) ?_
                rotate_left
                · intro w hSw; (try dsimp only at hSw); go_simp; (try with_reducible rfl)
                try simp only [Act.put, List.setIfInBounds_toArray, List.set_cons_zero, List.set_cons_succ]
                refine wpAnyH_take (i := 1) (v := ?_) (by simp only [List.getElem?_toArray, List.getElem?_cons_zero, List.getElem?_cons_succ]; rfl) (by kernel_rfl) (by kernel_rfl) (by kernel_rfl) (by exact fun _ _ _ h => h) (Or.inl ⟨by rfl, ?_⟩) (by assumption) ?_
                rotate_left
                · intro w hSw; (try dsimp only at hSw); go_simp; (try with_reducible rfl)
                try simp only [Act.put, List.setIfInBounds_toArray, List.set_cons_zero, List.set_cons_succ]
                refine wpAnyH_ready (rs := [2]) (by kernel_rfl) (by simp) ?_
                refine AllReadyH.cons (by simp only [List.getElem?_toArray, List.getElem?_cons_zero, List.getElem?_cons_succ]; rfl) (fun K hK => ?_) AllReadyH.nil
                go_simp
                go_at_call 31
                refine (CN.out _).mono ?_
                rintro e w5 ⟨rfl, b5⟩
                have d5 : Below (wr.alloc (.cells #[.string key, .int .i64 0, .int .i64 0, .string ⟨#[]⟩] 41)).heap.size (wr.alloc (.cells #[.string key, .int .i64 0, .int .i64 0, .string ⟨#[]⟩] 41)) w5 := dd.trans b5
                have p5 := (World.cell?_of_block (d5.block wr.heap.size hXl)).trans x0
                go_wp2_with fail
                refine hK.out _ _ (p5) (fun hHeld => ?_)
                clear hK K
                try simp only [Act.put, List.setIfInBounds_toArray, List.set_cons_zero, List.set_cons_succ]
                refine wpAnyH_take (i := 3) (v := ?_) (by simp only [List.getElem?_toArray, List.getElem?_cons_zero, List.getElem?_cons_succ]; rfl) (by kernel_rfl) (by kernel_rfl) (by kernel_rfl) (by exact fun _ _ _ h => h) (Or.inl ⟨by rfl, ?_⟩) (by assumption) ?_
                rotate_left
                · intro w hSw; (try dsimp only at hSw); go_simp; (try with_reducible rfl)
                try simp only [Act.put, List.setIfInBounds_toArray, List.set_cons_zero, List.set_cons_succ]
                refine wpAnyH_take (i := 4) (v := ?_) (by simp only [List.getElem?_toArray, List.getElem?_cons_zero, List.getElem?_cons_succ]; rfl) (by kernel_rfl) (by kernel_rfl) (by kernel_rfl) (by exact fun _ _ _ h => h) (Or.inl ⟨by rfl, ?_⟩) (by assumption) ?_
                rotate_left
                · intro w hSw; (try dsimp only at hSw); go_simp; (try with_reducible rfl)
                try simp only [Act.put, List.setIfInBounds_toArray, List.set_cons_zero, List.set_cons_succ]
                refine wpAnyH_pass 1 (by kernel_rfl) (fun _ _ _ _ h => h) (by assumption) [(5, 59), (6, 60), (7, 61), (8, 62), (9, 63), (10, 64), (11, 65), (12, 66), (13, 67), (14, 68), (15, 69), (16, 70), (17, 71), (18, 72)] _ _ _ rfl (by kernel_rfl) ?_
                simp only [passA, passL, Act.put, List.setIfInBounds_toArray, List.set_cons_zero, List.set_cons_succ]
                refine wpAnyH_take (i := 19) (v := ?_) (by simp only [List.getElem?_toArray, List.getElem?_cons_zero, List.getElem?_cons_succ]; rfl) (by kernel_rfl) (by kernel_rfl) (by kernel_rfl) (by exact fun _ _ _ h => h) (Or.inl ⟨by rfl, ?_⟩) (by assumption) ?_
                rotate_left
                · intro w hSw; (try dsimp only at hSw); go_simp; (try with_reducible rfl)
                try simp only [Act.put, List.setIfInBounds_toArray, List.set_cons_zero, List.set_cons_succ]
                refine wpAnyH_done (by kernel_rfl) ?_ _
                go_wp2_with fail
                exact bodyPost_ret (v := .tuple #[.slice none 0 0, .int .i64 0, .int .i64 30]) (by simp [results, Tryd.results22, go_sem]) rfl ⟨_, by rw [HO.out]; rfl, by rw [HO.out]; exact World.ownsRow_nil _ _ _ _, (hbw.alloc hbw.size _).trans (d5.mono (by simp; have := hbw.size; omega))⟩
              · rw [if_neg hca] at hcv
                obtain ⟨bn, hbn⟩ : ∃ b, nameL (runes key.data.toList) = b := ⟨_, rfl⟩
                have cN := fun W => refRight_any key W (by omega)
                rw [hbn] at cN
                have CN := Lib.hid cN
                have HBn := Lib.hid hbn
                obtain ⟨⟨⟨tk, tn, ts⟩, tm, te⟩, htv⟩ : ∃ T, tvP (bs.drop (at1 + 1 + L)) = T := ⟨_, rfl⟩
                have htl := tvP_len (bs.drop (at1 + 1 + L))
                have hacc2 := HAcc.out
                rw [htv] at hacc2 htl
                rw [List.length_drop] at htl
                dsimp only at hacc2 htl
                have HTv := Lib.hid htv
                have HAcc2 := Lib.hid hacc2
                clear cN hbn htv hacc2 HAcc
                have x0 : (wr.alloc (.cells #[.string key, .int .i64 0, .int .i64 0, .string ⟨#[]⟩] 41)).cell? { block := wr.heap.size, off := 0 } = some (.string key) := by rw [World.cell?_alloc_mark]; rfl
                have dd : Below (wr.alloc (.cells #[.string key, .int .i64 0, .int .i64 0, .string ⟨#[]⟩] 41)).heap.size (wr.alloc (.cells #[.string key, .int .i64 0, .int .i64 0, .string ⟨#[]⟩] 41)) (wr.alloc (.cells #[.string key, .int .i64 0, .int .i64 0, .string ⟨#[]⟩] 41)).drew := (Below.refl _ (wr.alloc (.cells #[.string key, .int .i64 0, .int .i64 0, .string ⟨#[]⟩] 41))).drew
                have hXl : wr.heap.size < (wr.alloc (.cells #[.string key, .int .i64 0, .int .i64 0, .string ⟨#[]⟩] 41)).heap.size := by simp
                cases bn with
                | false =>
                  have hout : takeP bs = (30, 0, []) := by
                    have h1 := HAcc2.out
                    rw [if_pos HBn.out] at h1
                    rw [HP.out, ← h1]
                  have HO := Lib.hid hout
                  clear hout
                  go_wp2_with fail
                  refine wp_region_held_drew (S := (fun w' => w'.cell? { block := wr.heap.size, off := 0 } = some (.string key))) (by kernel_rfl) x0 (fun hHeld => ?_)
                  refine wpAnyH_take (i := 0) (v := ?_) (by simp only [List.getElem?_toArray, List.getElem?_cons_zero]; rfl) (by kernel_rfl) (by kernel_rfl) (by kernel_rfl) (by exact fun _ _ _ h => h) (Or.inl ⟨by rfl, ?_⟩) (by assumption) ?_
                  rotate_left
                  · intro w hSw; (try dsimp only at hSw); go_simp; (try with_reducible rfl)
                  try simp only [Act.put, List.setIfInBounds_toArray, List.set_cons_zero, List.set_cons_succ]
                  refine wpAnyH_take (i := 1) (v := ?_) (by simp only [List.getElem?_toArray, List.getElem?_cons_zero, List.getElem?_cons_succ]; rfl) (by kernel_rfl) (by kernel_rfl) (by kernel_rfl) (by exact fun _ _ _ h => h) (Or.inl ⟨by rfl, ?_⟩) (by assumption) ?_
                  rotate_left
                  · intro w hSw; (try dsimp only at hSw); go_simp; (try with_reducible rfl)
                  try simp only [Act.put, List.setIfInBounds_toArray, List.set_cons_zero, List.set_cons_succ]
                  refine wpAnyH_ready (rs := [2]) (by kernel_rfl) (by simp) ?_
                  refine AllReadyH.cons (by simp only [List.getElem?_toArray, List.getElem?_cons_zero, List.getElem?_cons_succ]; rfl) (fun K hK => ?_) AllReadyH.nil
                  go_simp
                  go_at_call 31
                  refine (CN.out _).mono ?_
                  rintro e w5 ⟨rfl, b5⟩
                  have d5 : Below (wr.alloc (.cells #[.string key, .int .i64 0, .int .i64 0, .string ⟨#[]⟩] 41)).heap.size (wr.alloc (.cells #[.string key, .int .i64 0, .int .i64 0, .string ⟨#[]⟩] 41)) w5 := dd.trans b5
                  have p5 := (World.cell?_of_block (d5.block wr.heap.size hXl)).trans x0
                  go_wp2_with fail
                  refine hK.out _ _ (p5) (fun hHeld => ?_)
                  clear hK K
                  try simp only [Act.put, List.setIfInBounds_toArray, List.set_cons_zero, List.set_cons_succ]
                  refine wpAnyH_take (i := 3) (v := ?_) (by simp only [List.getElem?_toArray, List.getElem?_cons_zero, List.getElem?_cons_succ]; rfl) (by kernel_rfl) (by kernel_rfl) (by kernel_rfl) (by exact fun _ _ _ h => h) (Or.inl ⟨by rfl, ?_⟩) (by assumption) ?_
                  rotate_left
                  · intro w hSw; (try dsimp only at hSw); go_simp; (try with_reducible rfl)
                  try simp only [Act.put, List.setIfInBounds_toArray, List.set_cons_zero, List.set_cons_succ]
                  refine wpAnyH_take (i := 4) (v := ?_) (by simp only [List.getElem?_toArray, List.getElem?_cons_zero, List.getElem?_cons_succ]; rfl) (by kernel_rfl) (by kernel_rfl) (by kernel_rfl) (by exact fun _ _ _ h => h) (Or.inl ⟨by rfl, ?_⟩) (by assumption) ?_
                  rotate_left
                  · intro w hSw; (try dsimp only at hSw); go_simp; (try with_reducible rfl)
                  try simp only [Act.put, List.setIfInBounds_toArray, List.set_cons_zero, List.set_cons_succ]
                  refine wpAnyH_pass 1 (by kernel_rfl) (fun _ _ _ _ h => h) (by assumption) [(5, 59), (6, 60), (7, 61), (8, 62), (9, 63), (10, 64), (11, 65), (12, 66), (13, 67), (14, 68), (15, 69), (16, 70), (17, 71), (18, 72)] _ _ _ rfl (by kernel_rfl) ?_
                  simp only [passA, passL, Act.put, List.setIfInBounds_toArray, List.set_cons_zero, List.set_cons_succ]
                  refine wpAnyH_take (i := 19) (v := ?_) (by simp only [List.getElem?_toArray, List.getElem?_cons_zero, List.getElem?_cons_succ]; rfl) (by kernel_rfl) (by kernel_rfl) (by kernel_rfl) (by exact fun _ _ _ h => h) (Or.inl ⟨by rfl, ?_⟩) (by assumption) ?_
                  rotate_left
                  · intro w hSw; (try dsimp only at hSw); go_simp; (try with_reducible rfl)
                  try simp only [Act.put, List.setIfInBounds_toArray, List.set_cons_zero, List.set_cons_succ]
                  refine wpAnyH_done (by kernel_rfl) ?_ _
                  go_wp2_with fail
                  exact bodyPost_ret (v := .tuple #[.slice none 0 0, .int .i64 0, .int .i64 30]) (by simp [results, Tryd.results22, go_sem]) rfl ⟨_, by rw [HO.out]; rfl, by rw [HO.out]; exact World.ownsRow_nil _ _ _ _, (hbw.alloc hbw.size _).trans (d5.mono (by simp; have := hbw.size; omega))⟩
                | true =>
                  have hacc3 := HAcc2.out
                  rw [if_neg (by rw [HBn.out]; decide)] at hacc3
                  have HAcc3 := Lib.hid hacc3
                  have hH := HoldP.new wr key 0 0 ⟨#[]⟩
                  have HH := Lib.hid hH
                  clear hacc3 hH HAcc2
                  rcases Nat.eq_zero_or_pos j with hj0 | hj0
                  · have hab : aboveK (lastK acc) (key, 0, 0, ⟨#[]⟩) = true := by
                      unfold lastK
                      rw [if_pos (by have := HAJ.out; omega)]
                      rfl
                    have hj1 : ¬ ((0 : Int) < ((0 : Nat) : Int)) := by decide
                    subst hj0
                    go_wp2_with fail
                    refine wp_region_held_drew (S := (fun w' => w'.cell? { block := wr.heap.size, off := 0 } = some (.string key))) (by kernel_rfl) x0 (fun hHeld => ?_)
                    refine wpAnyH_take (i := 0) (v := ?_) (by simp only [List.getElem?_toArray, List.getElem?_cons_zero]; rfl) (by kernel_rfl) (by kernel_rfl) (by kernel_rfl) (by exact fun _ _ _ h => h) (Or.inl ⟨by rfl, ?_⟩) (by assumption) ?_
                    rotate_left
                    · intro w hSw; (try dsimp only at hSw); go_simp; (try with_reducible rfl)
                    try simp only [Act.put, List.setIfInBounds_toArray, List.set_cons_zero, List.set_cons_succ]
                    refine wpAnyH_take (i := 1) (v := ?_) (by simp only [List.getElem?_toArray, List.getElem?_cons_zero, List.getElem?_cons_succ]; rfl) (by kernel_rfl) (by kernel_rfl) (by kernel_rfl) (by exact fun _ _ _ h => h) (Or.inl ⟨by rfl, ?_⟩) (by assumption) ?_
                    rotate_left
                    · intro w hSw; (try dsimp only at hSw); go_simp; (try with_reducible rfl)
                    try simp only [Act.put, List.setIfInBounds_toArray, List.set_cons_zero, List.set_cons_succ]
                    refine wpAnyH_ready (rs := [2]) (by kernel_rfl) (by simp) ?_
                    refine AllReadyH.cons (by simp only [List.getElem?_toArray, List.getElem?_cons_zero, List.getElem?_cons_succ]; rfl) (fun K hK => ?_) AllReadyH.nil
                    go_simp
                    go_at_call 31
                    refine (CN.out _).mono ?_
                    rintro e w5 ⟨rfl, b5⟩
                    have d5 : Below (wr.alloc (.cells #[.string key, .int .i64 0, .int .i64 0, .string ⟨#[]⟩] 41)).heap.size (wr.alloc (.cells #[.string key, .int .i64 0, .int .i64 0, .string ⟨#[]⟩] 41)) w5 := dd.trans b5
                    have p5 := (World.cell?_of_block (d5.block wr.heap.size hXl)).trans x0
                    go_wp2_with fail
                    refine hK.out _ _ (p5) (fun hHeld => ?_)
                    clear hK K
                    try simp only [Act.put, List.setIfInBounds_toArray, List.set_cons_zero, List.set_cons_succ]
                    refine wpAnyH_take (i := 3) (v := ?_) (by simp only [List.getElem?_toArray, List.getElem?_cons_zero, List.getElem?_cons_succ]; rfl) (by kernel_rfl) (by kernel_rfl) (by kernel_rfl) (by exact fun _ _ _ h => h) (Or.inl ⟨by rfl, ?_⟩) (by assumption) ?_
                    rotate_left
                    · intro w hSw; (try dsimp only at hSw); go_simp; (try with_reducible rfl)
                    try simp only [Act.put, List.setIfInBounds_toArray, List.set_cons_zero, List.set_cons_succ]
                    refine wpAnyH_take (i := 4) (v := ?_) (by simp only [List.getElem?_toArray, List.getElem?_cons_zero, List.getElem?_cons_succ]; rfl) (by kernel_rfl) (by kernel_rfl) (by kernel_rfl) (by exact fun _ _ _ h => h) (Or.inl ⟨by rfl, ?_⟩) (by assumption) ?_
                    rotate_left
                    · intro w hSw; (try dsimp only at hSw); go_simp; (try with_reducible rfl)
                    try simp only [Act.put, List.setIfInBounds_toArray, List.set_cons_zero, List.set_cons_succ]
                    refine wpAnyH_take (i := 5) (v := ?_) (by simp only [List.getElem?_toArray, List.getElem?_cons_zero, List.getElem?_cons_succ]; rfl) (by kernel_rfl) (by kernel_rfl) (by kernel_rfl) (by exact fun _ _ _ h => h) (Or.inl ⟨by rfl, ?_⟩) (by assumption) ?_
                    rotate_left
                    · intro w hSw; (try dsimp only at hSw); go_simp; (try with_reducible rfl)
                    try simp only [Act.put, List.setIfInBounds_toArray, List.set_cons_zero, List.set_cons_succ]
                    refine wpAnyH_take (i := 6) (v := ?_) (by simp only [List.getElem?_toArray, List.getElem?_cons_zero, List.getElem?_cons_succ]; rfl) (by kernel_rfl) (by kernel_rfl) (by kernel_rfl) (by exact fun _ _ _ h => h) (Or.inl ⟨by rfl, ?_⟩) (by assumption) ?_
                    rotate_left
                    · intro w hSw; (try dsimp only at hSw); go_simp; (try with_reducible rfl)
                    try simp only [Act.put, List.setIfInBounds_toArray, List.set_cons_zero, List.set_cons_succ]
                    refine wpAnyH_take (i := 7) (v := ?_) (by simp only [List.getElem?_toArray, List.getElem?_cons_zero, List.getElem?_cons_succ]; rfl) (by kernel_rfl) (by kernel_rfl) (by kernel_rfl) (by exact fun _ _ _ h => h) (Or.inl ⟨by rfl, ?_⟩) (by assumption) ?_
                    rotate_left
                    · intro w hSw; (try dsimp only at hSw); go_simp; (try with_reducible rfl)
                    try simp only [Act.put, List.setIfInBounds_toArray, List.set_cons_zero, List.set_cons_succ]
                    refine wpAnyH_pass 2 (by kernel_rfl) (fun _ _ _ _ h => h) (by assumption) [(8, 62), (9, 63), (10, 64), (11, 65), (12, 66), (13, 67), (14, 68), (15, 69), (16, 70), (17, 71)] _ _ _ rfl (by kernel_rfl) ?_
                    simp only [passA, passL, Act.put, List.setIfInBounds_toArray, List.set_cons_zero, List.set_cons_succ]
                    refine wpAnyH_take (i := 18) (v := ?_) (by simp only [List.getElem?_toArray, List.getElem?_cons_zero, List.getElem?_cons_succ]; rfl) (by kernel_rfl) (by kernel_rfl) (by kernel_rfl) (by exact fun _ _ _ h => h) (Or.inl ⟨by rfl, ?_⟩) (by assumption) ?_
                    rotate_left
                    · intro w hSw; (try dsimp only at hSw); go_simp; (try with_reducible rfl)
                    try simp only [Act.put, List.setIfInBounds_toArray, List.set_cons_zero, List.set_cons_succ]
                    refine wpAnyH_take (i := 19) (v := ?_) (by simp only [List.getElem?_toArray, List.getElem?_cons_zero, List.getElem?_cons_succ]; rfl) (by kernel_rfl) (by kernel_rfl) (by kernel_rfl) (by exact fun _ _ _ h => h) (Or.inl ⟨by rfl, ?_⟩) (by assumption) ?_
                    rotate_left
                    · intro w hSw; (try dsimp only at hSw); go_simp; (try with_reducible rfl)
                    try simp only [Act.put, List.setIfInBounds_toArray, List.set_cons_zero, List.set_cons_succ]
                    refine wpAnyH_done (by kernel_rfl) ?_ _
                    have hst2 : (if te ≠ 0 then (te, 0, []) else takeFrom bs (n - (0 + 1)) (at1 + 1 + L + tm) (acc ++ [(key, tk, tn, ts)])) = takeFrom bs n 1 [] := by
                      have h1 := HAcc3.out
                      rw [if_neg (by rw [hab]; decide)] at h1
                      exact h1
                    have HSt2 := Lib.hid hst2
                    have Bq : Below w.heap.size w w5 := (hbw.alloc hbw.size _).trans ((d5).mono (by simp; have := hbw.size; omega))
                    have hrq := HRd.out.below (Nat.le_refl _) Bq
                    have hq := (d5).size
                    rw [show (wr.alloc (.cells #[.string key, .int .i64 0, .int .i64 0, .string ⟨#[]⟩] 41)).heap.size = wr.heap.size + 1 from by simp] at hq
                    have hHq := HH.out.below d5 (by simp)
                    have HHq := Lib.hid hHq
                    clear hst2 hHq hab HAcc3 HH
                    by_cases hcb : c = at1 + 1 + L
                    · have hdn : bs.drop (at1 + 1 + L) = [] := List.drop_eq_nil_of_le (by omega)
                      have hte20 : te = 20 := by
                        have h1 := HTv.out
                        rw [hdn] at h1
                        exact (congrArg (fun p => p.2.2) h1).symm
                      have cT := refTake_any (some ad) 0 [] w5 (fun k hk => by simp at hk) (Nat.le_refl _) (by simp)
                      have cT2 : Calls Tryd.prog 46 #[.slice (some ad) (bs.length - (at1 + 1 + L)) 0] w5 fun e w' => e = .returned (.tuple #[valV 0 0 ⟨#[]⟩, .int .i64 0, .int .i64 20]) ∧ Below w5.heap.size w5 w' := by rw [show bs.length - (at1 + 1 + L) = 0 from by omega]; exact cT
                      have CT := Lib.hid cT2
                      have hout : takeP bs = (20, 0, []) := by
                        have h1 := HSt2.out
                        rw [hte20, if_pos (by decide)] at h1
                        rw [HP.out, ← h1]
                      have HO := Lib.hid hout
                      unfold valV at CT
                      clear cT cT2 hout hdn
                      go_wp2_with fail
                      refine CT.out.mono ?_
                      rintro e w7 ⟨rfl, b7⟩
                      go_wp2_with fail
                      exact bodyPost_ret (v := .tuple #[.slice none 0 0, .int .i64 0, .int .i64 20]) (by simp [results, Tryd.results22, go_sem]) rfl ⟨_, by rw [HO.out]; rfl, by rw [HO.out]; exact World.ownsRow_nil _ _ _ _, (btV Bq b7).alloc (btV Bq b7).size _⟩
                    · have cT := refTake_any (some (ad.add (at1 + 1 + L))) (c - (at1 + 1 + L)) (bs.drop (at1 + 1 + L)) w5 (hrq.dropT _) (by rw [List.length_drop]; omega) (by rw [List.length_drop]; omega)
                      rw [takeV_tv, HTv.out, List.length_drop] at cT
                      have CT := Lib.hid cT
                      unfold valV at CT
                      dsimp only at CT
                      clear cT
                      go_wp2_with fail
                      refine CT.out.mono ?_
                      rintro e w7 ⟨rfl, b7⟩
                      have hq7 := b7.size
                      by_cases hte : te = 0
                      · have h1 := HSt2.out
                        subst hte
                        rw [if_neg (by simp)] at h1
                        have HAc3 := Lib.hid h1
                        have d8 : Below w5.heap.size w5 (w7.alloc (.cells #[.int .i64 tk, .int .i64 tn, .string ts] 36)) := b7.alloc b7.size _
                        have hH8 := HHq.out.below d8 (by omega)
                        obtain ⟨⟨x0, x1, x2, x3⟩, y0, y1, y2, y3⟩ := hH8.at
                        obtain ⟨⟨v0, v1, v2⟩, _⟩ := (HoldV.new w7 tk tn ts).at
                        have hH9 := hH8.put3P tk tn ts
                        obtain ⟨⟨z0, z1, z2, z3⟩, _⟩ := hH9.at
                        have B8 := btV Bq d8
                        have B9 : Below w.heap.size w (put3P (w7.alloc (.cells #[.int .i64 tk, .int .i64 tn, .string ts] 36)) wr.heap.size tk tn ts) := below_put3P B8 hbw.size tk tn ts
                        have e9 : (put3P (w7.alloc (.cells #[.int .i64 tk, .int .i64 tn, .string ts] 36)) wr.heap.size tk tn ts).heap.size = w7.heap.size + 1 := by simp [put3P]
                        have hrow9 : PRow (put3P (w7.alloc (.cells #[.int .i64 tk, .int .i64 tn, .string ts] 36)) wr.heap.size tk tn ts) w.heap.size v acc.length acc := PRow.put3P (PRow.below (PRow.below (PRow.alloc' HRow.out _) d5 (Nat.le_refl _)) d8 (Nat.le_refl _)) wr.heap.size (fun e => by have := (World.ownsRow.lt HRow.out wr.heap.size e).2; omega) tk tn ts
                        have HRow9 := Lib.hid hrow9
                        have HB9 := Lib.hid B9
                        have HH9 := Lib.hid hH9
                        have hsum : IntKind.i64.wrap ((at1 : Int) + 1 + (L : Int) + (tm : Int)) = (at1 : Int) + 1 + (L : Int) + (tm : Int) := by rw [IntKind.wrap_i64]; omega
                        have HSum : Hid ((at1 : Int) + 1 + (L : Int) + (tm : Int) = ((at1 + 1 + L + tm : Nat) : Int)) := Lib.hid (by omega)
                        have hw9 : w.heap.size ≤ w7.heap.size + 1 := by have := B9.size; rw [e9] at this; exact this
                        have hs9 : wr.heap.size < w7.heap.size + 1 := by omega
                        clear hH8 hH9 h1 hrow9 B9 e9
                        dsimp only at x0 x1 x2 x3 v0 v1 v2 z0 z1 z2 z3
                        unfold put3P at z0 z1 z2 z3 HRow9 HB9 HH9
                        go_wp2_with (at_builtin; refine wpList_append_own _ rfl _ _ 22 rfl w.heap.size 41 i0 _ 4 48 Tryd.underlying22 hi hz0 hz1 hz2 rfl (by decide) _ _ _ rfl (World.ownsRow.alloc HRow9.out _) ⟨w7.heap.size + 1, 0, none⟩ 1 1 (cellsP (key, tk, tn, ts)) rfl rfl ?a4 (cellsP_z _) ?c4 ?d4 ?e4 ?_)
                        try (case a4 => exact (HoldP.cells (z := (key, tk, tn, ts)) (by
                          have := HoldP.new ((((w7.alloc (.cells #[.int .i64 tk, .int .i64 tn, .string ts] 36)).setCell { block := wr.heap.size, off := 1 } (.int .i64 tk)).setCell { block := wr.heap.size, off := 2 } (.int .i64 tn)).setCell { block := wr.heap.size, off := 3 } (.string ts)) key tk tn ts
                          simpa using this)))
                        try (case c4 => unfold maxLen; omega)
                        try (case d4 => omega)
                        try (case e4 => simp; omega)
                        intro v9 w9 hown9 hgrow9 _
                        have hB9 : Below w.heap.size w w9 := (HB9.out.alloc HB9.out.size _).grown hgrow9 (by simp; omega) (fun k' hk' => by have := (World.ownsRow.lt HRow9.out k' hk').1; omega)
                        go_wp2_with fail
                        go_roundw
                        case rel =>
                          refine ⟨0 + 1, at1 + 1 + L + tm, v9, acc ++ [(key, tk, tn, ts)], rfl, congrArg (Value.int .i64) HSum.out, by first | rfl | go_num, by omega, by rw [List.length_append, HAJ.out]; rfl, by omega, by omega, HAc3.out, fun z hz => ?_, ?_, hB9⟩
                          · rcases List.mem_append.1 hz with hz | hz
                            · exact HKs.out z hz
                            · obtain rfl := List.mem_singleton.1 hz
                              exact hksz
                          · exact PRow.snoc hown9 (by simp)
                        case measure => simp [intOf]; omega
                      · have hte1 : (te != 0) = true := by simpa using hte
                        have hout : takeP bs = (te, 0, []) := by
                          have h1 := HSt2.out
                          rw [if_pos hte] at h1
                          rw [HP.out, ← h1]
                        have HO := Lib.hid hout
                        clear hout
                        go_wp2_with fail
                        exact bodyPost_ret (v := .tuple #[.slice none 0 0, .int .i64 0, .int .i64 te]) (by simp [results, Tryd.results22, go_sem]) rfl ⟨_, by rw [HO.out]; rfl, by rw [HO.out]; exact World.ownsRow_nil _ _ _ _, (btV Bq b7).alloc (btV Bq b7).size _⟩
                  · 
                    obtain ⟨q, rfl⟩ : ∃ q, j = q + 1 := ⟨j - 1, by omega⟩
                    obtain ⟨A', c', rfl, hc', hA', hrd'⟩ := HRow.out.rd
                    have hql : q < acc.length := by have := HAJ.out; omega
                    obtain ⟨aa, rfl, hbl, q0, _⟩ := hrd'.at4 (k := q) hql
                    have hpk : (acc.getD q Prop4.no).1.size ≤ 255 := HKs.out _ (by rw [List.getD_eq_getElem?_getD, List.getElem?_eq_getElem hql]; exact List.getElem_mem hql)
                    obtain ⟨pj, hpj⟩ : ∃ pj, (acc.getD q Prop4.no).1 = pj := ⟨_, rfl⟩
                    rw [hpj] at q0 hpk
                    have hla : lastK acc = some pj := by
                      unfold lastK
                      rw [if_neg (by omega), HAJ.out, ← hpj]
                      rfl
                    obtain ⟨vc, hvc⟩ : ∃ v, cmpL (runes pj.data.toList) (runes key.data.toList) = v := ⟨_, rfl⟩
                    have cC := fun W => refCompare_any pj key W (by omega) (by omega)
                    rw [hvc] at cC
                    have CC := Lib.hid cC
                    have HAb : Hid (aboveK (lastK acc) (key, 0, 0, ⟨#[]⟩) = decide (vc < 0)) := Lib.hid (by rw [hla, ← hvc]; rfl)
                    have xr : (wr.alloc (.cells #[.string key, .int .i64 0, .int .i64 0, .string ⟨#[]⟩] 41)).cell? (aa.add (q * 4)) = some (.string pj) := (World.cell?_alloc_lt _ _ _ (by rw [add_block]; exact hbl)).trans q0
                    have hblX : (aa.add (q * 4)).block < (wr.alloc (.cells #[.string key, .int .i64 0, .int .i64 0, .string ⟨#[]⟩] 41)).heap.size := by rw [add_block]; simp; omega
                    have z1 : (q : Int) < (acc.length : Int) := by omega
                    clear hrd' hA' hc' hpj hla cC hvc q0 hql
                    have hd0 : decide ((0 : Int) < (q : Int) + 1) = true := decide_eq_true (by omega)
                    have hd1 : IntKind.i64.wrap ((q : Int) + 1 - 1) = (q : Int) := by rw [show (q : Int) + 1 - 1 = q from by omega]; exact IntWalk.i64_in _ (by omega)
                    have hd3 : IntKind.i64.wrap (q : Int) = (q : Int) := IntWalk.i64_in _ (by omega)
                    have hd4 : IntKind.i64.wrap (((q + 1 : Nat) : Int) - 1) = (q : Int) := by rw [show ((q + 1 : Nat) : Int) - 1 = q from by omega]; exact hd3
                    have z0 : (0 : Int) ≤ (q : Int) := by omega
                    have z2 : (0 : Int) ≤ (q : Int) + 1 := by omega
                    go_wp2_with fail
                    refine wp_region_held_drew (S := (fun w' => w'.cell? { block := wr.heap.size, off := 0 } = some (.string key) ∧ w'.cell? (aa.add (q * 4)) = some (.string pj))) (by kernel_rfl) ⟨x0, xr⟩ (fun hHeld => ?_)
                    refine wpAnyH_take (i := 0) (v := ?_) (by simp only [List.getElem?_toArray, List.getElem?_cons_zero]; rfl) (by kernel_rfl) (by kernel_rfl) (by kernel_rfl) (by exact fun _ _ _ h => h) (Or.inl ⟨by rfl, ?_⟩) (by assumption) ?_
                    rotate_left
                    · intro w hSw; (try dsimp only at hSw); go_simp; (try with_reducible rfl)
                    try simp only [Act.put, List.setIfInBounds_toArray, List.set_cons_zero, List.set_cons_succ]
                    refine wpAnyH_take (i := 1) (v := ?_) (by simp only [List.getElem?_toArray, List.getElem?_cons_zero, List.getElem?_cons_succ]; rfl) (by kernel_rfl) (by kernel_rfl) (by kernel_rfl) (by exact fun _ _ _ h => h) (Or.inl ⟨by rfl, ?_⟩) (by assumption) ?_
                    rotate_left
                    · intro w hSw; (try dsimp only at hSw); go_simp; (try with_reducible rfl)
                    try simp only [Act.put, List.setIfInBounds_toArray, List.set_cons_zero, List.set_cons_succ]
                    refine wpAnyH_ready (rs := [2]) (by kernel_rfl) (by simp) ?_
                    refine AllReadyH.cons (by simp only [List.getElem?_toArray, List.getElem?_cons_zero, List.getElem?_cons_succ]; rfl) (fun K hK => ?_) AllReadyH.nil
                    go_simp
                    go_at_call 31
                    refine (CN.out _).mono ?_
                    rintro e w5 ⟨rfl, b5⟩
                    have d5 : Below (wr.alloc (.cells #[.string key, .int .i64 0, .int .i64 0, .string ⟨#[]⟩] 41)).heap.size (wr.alloc (.cells #[.string key, .int .i64 0, .int .i64 0, .string ⟨#[]⟩] 41)) w5 := dd.trans b5
                    have p5 := (World.cell?_of_block (d5.block wr.heap.size hXl)).trans x0
                    have r5 := (World.cell?_of_block (d5.block _ hblX)).trans xr
                    go_wp2_with fail
                    refine hK.out _ _ (⟨p5, r5⟩) (fun hHeld => ?_)
                    clear hK K
                    try simp only [Act.put, List.setIfInBounds_toArray, List.set_cons_zero, List.set_cons_succ]
                    refine wpAnyH_take (i := 3) (v := ?_) (by simp only [List.getElem?_toArray, List.getElem?_cons_zero, List.getElem?_cons_succ]; rfl) (by kernel_rfl) (by kernel_rfl) (by kernel_rfl) (by exact fun _ _ _ h => h) (Or.inl ⟨by rfl, ?_⟩) (by assumption) ?_
                    rotate_left
                    · intro w hSw; (try dsimp only at hSw); go_simp; (try with_reducible rfl)
                    try simp only [Act.put, List.setIfInBounds_toArray, List.set_cons_zero, List.set_cons_succ]
                    refine wpAnyH_take (i := 4) (v := ?_) (by simp only [List.getElem?_toArray, List.getElem?_cons_zero, List.getElem?_cons_succ]; rfl) (by kernel_rfl) (by kernel_rfl) (by kernel_rfl) (by exact fun _ _ _ h => h) (Or.inl ⟨by rfl, ?_⟩) (by assumption) ?_
                    rotate_left
                    · intro w hSw; (try dsimp only at hSw); go_simp; (try with_reducible rfl)
                    try simp only [Act.put, List.setIfInBounds_toArray, List.set_cons_zero, List.set_cons_succ]
                    refine wpAnyH_take (i := 5) (v := ?_) (by simp only [List.getElem?_toArray, List.getElem?_cons_zero, List.getElem?_cons_succ]; rfl) (by kernel_rfl) (by kernel_rfl) (by kernel_rfl) (by exact fun _ _ _ h => h) (Or.inl ⟨by rfl, ?_⟩) (by assumption) ?_
                    rotate_left
                    · intro w hSw; (try dsimp only at hSw); go_simp; (try with_reducible rfl)
                    try simp only [Act.put, List.setIfInBounds_toArray, List.set_cons_zero, List.set_cons_succ]
                    refine wpAnyH_take (i := 6) (v := ?_) (by simp only [List.getElem?_toArray, List.getElem?_cons_zero, List.getElem?_cons_succ]; rfl) (by kernel_rfl) (by kernel_rfl) (by kernel_rfl) (by exact fun _ _ _ h => h) (Or.inl ⟨by rfl, ?_⟩) (by assumption) ?_
                    rotate_left
                    · intro w hSw; (try dsimp only at hSw); go_simp; (try with_reducible rfl)
                    try simp only [Act.put, List.setIfInBounds_toArray, List.set_cons_zero, List.set_cons_succ]
                    refine wpAnyH_take (i := 7) (v := ?_) (by simp only [List.getElem?_toArray, List.getElem?_cons_zero, List.getElem?_cons_succ]; rfl) (by kernel_rfl) (by kernel_rfl) (by kernel_rfl) (by exact fun _ _ _ h => h) (Or.inl ⟨by rfl, ?_⟩) (by assumption) ?_
                    rotate_left
                    · intro w hSw; (try dsimp only at hSw); go_simp; (try with_reducible rfl)
                    try simp only [Act.put, List.setIfInBounds_toArray, List.set_cons_zero, List.set_cons_succ]
                    refine wpAnyH_take (i := 8) (v := ?_) (by simp only [List.getElem?_toArray, List.getElem?_cons_zero, List.getElem?_cons_succ]; rfl) (by kernel_rfl) (by kernel_rfl) (by kernel_rfl) (by exact fun _ _ _ h => h) (Or.inl ⟨by rfl, ?_⟩) (by assumption) ?_
                    rotate_left
                    · intro w hSw; (try dsimp only at hSw); go_simp; (try with_reducible rfl)
                    try simp only [Act.put, List.setIfInBounds_toArray, List.set_cons_zero, List.set_cons_succ]
                    refine wpAnyH_take (i := 9) (v := ?_) (by simp only [List.getElem?_toArray, List.getElem?_cons_zero, List.getElem?_cons_succ]; rfl) (by kernel_rfl) (by kernel_rfl) (by kernel_rfl) (by exact fun _ _ _ h => h) (Or.inl ⟨by rfl, ?_⟩) (by assumption) ?_
                    rotate_left
                    · intro w hSw; (try dsimp only at hSw); go_simp; (try with_reducible rfl)
                    try simp only [Act.put, List.setIfInBounds_toArray, List.set_cons_zero, List.set_cons_succ]
                    refine wpAnyH_take (i := 10) (v := ?_) (by simp only [List.getElem?_toArray, List.getElem?_cons_zero, List.getElem?_cons_succ]; rfl) (by kernel_rfl) (by kernel_rfl) (by kernel_rfl) (by exact fun _ _ _ h => h) (Or.inl ⟨by rfl, ?_⟩) (by assumption) ?_
                    rotate_left
                    · intro w hSw; (try dsimp only at hSw); go_simp; (try with_reducible rfl)
                    try simp only [Act.put, List.setIfInBounds_toArray, List.set_cons_zero, List.set_cons_succ]
                    refine wpAnyH_take (i := 11) (v := ?_) (by simp only [List.getElem?_toArray, List.getElem?_cons_zero, List.getElem?_cons_succ]; rfl) (by kernel_rfl) (by kernel_rfl) (by kernel_rfl) (by exact fun _ _ _ h => h) (Or.inl ⟨by rfl, ?_⟩) (by assumption) ?_
                    rotate_left
                    · intro w hSw; (try dsimp only at hSw); go_simp; (try with_reducible rfl)
                    try simp only [Act.put, List.setIfInBounds_toArray, List.set_cons_zero, List.set_cons_succ]
                    refine wpAnyH_take (i := 12) (v := ?_) (by simp only [List.getElem?_toArray, List.getElem?_cons_zero, List.getElem?_cons_succ]; rfl) (by kernel_rfl) (by kernel_rfl) (by kernel_rfl) (by exact fun _ _ _ h => h) (Or.inl ⟨by rfl, ?_⟩) (by assumption) ?_
                    rotate_left
                    · intro w hSw; (try dsimp only at hSw); go_simp; (try with_reducible rfl)
                    try simp only [Act.put, List.setIfInBounds_toArray, List.set_cons_zero, List.set_cons_succ]
                    refine wpAnyH_take (i := 13) (v := ?_) (by simp only [List.getElem?_toArray, List.getElem?_cons_zero, List.getElem?_cons_succ]; rfl) (by kernel_rfl) (by kernel_rfl) (by kernel_rfl) (by exact fun _ _ _ h => h) (Or.inl ⟨by rfl, ?_⟩) (by assumption) ?_
                    rotate_left
                    · intro w hSw; (try dsimp only at hSw); go_simp; (try with_reducible rfl)
                    try simp only [Act.put, List.setIfInBounds_toArray, List.set_cons_zero, List.set_cons_succ]
                    refine wpAnyH_take (i := 14) (v := ?_) (by simp only [List.getElem?_toArray, List.getElem?_cons_zero, List.getElem?_cons_succ]; rfl) (by kernel_rfl) (by kernel_rfl) (by kernel_rfl) (by exact fun _ _ _ h => h) (Or.inl ⟨by rfl, ?_⟩) (by assumption) ?_
                    rotate_left
                    · intro w hSw; (try dsimp only at hSw); go_simp; (try with_reducible rfl)
                    try simp only [Act.put, List.setIfInBounds_toArray, List.set_cons_zero, List.set_cons_succ]
                    refine wpAnyH_take (i := 15) (v := ?_) (by simp only [List.getElem?_toArray, List.getElem?_cons_zero, List.getElem?_cons_succ]; rfl) (by kernel_rfl) (by kernel_rfl) (by kernel_rfl) (by exact fun _ _ _ h => h) (Or.inl ⟨by rfl, ?_⟩) (by assumption) ?_
                    rotate_left
                    · intro w hSw; (try dsimp only at hSw); go_simp; (try with_reducible rfl)
                    try simp only [Act.put, List.setIfInBounds_toArray, List.set_cons_zero, List.set_cons_succ]
                    refine wpAnyH_ready (rs := [16]) (by kernel_rfl) (by simp) ?_
                    refine AllReadyH.cons (by simp only [List.getElem?_toArray, List.getElem?_cons_zero, List.getElem?_cons_succ]; rfl) (fun K hK => ?_) AllReadyH.nil
                    go_simp
                    go_at_call 38
                    refine (CC.out _).mono ?_
                    rintro e w6 ⟨rfl, b6⟩
                    have d6 : Below (wr.alloc (.cells #[.string key, .int .i64 0, .int .i64 0, .string ⟨#[]⟩] 41)).heap.size (wr.alloc (.cells #[.string key, .int .i64 0, .int .i64 0, .string ⟨#[]⟩] 41)) w6 := d5.trans (b6.mono d5.size)
                    have p6 := (World.cell?_of_block (d6.block wr.heap.size hXl)).trans x0
                    have r6 := (World.cell?_of_block (d6.block _ hblX)).trans xr
                    go_wp2_with fail
                    refine hK.out _ _ (⟨p6, r6⟩) (fun hHeld => ?_)
                    clear hK K
                    try simp only [Act.put, List.setIfInBounds_toArray, List.set_cons_zero, List.set_cons_succ]
                    refine wpAnyH_take (i := 17) (v := ?_) (by simp only [List.getElem?_toArray, List.getElem?_cons_zero, List.getElem?_cons_succ]; rfl) (by kernel_rfl) (by kernel_rfl) (by kernel_rfl) (by exact fun _ _ _ h => h) (Or.inl ⟨by rfl, ?_⟩) (by assumption) ?_
                    rotate_left
                    · intro w hSw; (try dsimp only at hSw); go_simp; (try with_reducible rfl)
                    try simp only [Act.put, List.setIfInBounds_toArray, List.set_cons_zero, List.set_cons_succ]
                    refine wpAnyH_take (i := 18) (v := ?_) (by simp only [List.getElem?_toArray, List.getElem?_cons_zero, List.getElem?_cons_succ]; rfl) (by kernel_rfl) (by kernel_rfl) (by kernel_rfl) (by exact fun _ _ _ h => h) (Or.inl ⟨by rfl, ?_⟩) (by assumption) ?_
                    rotate_left
                    · intro w hSw; (try dsimp only at hSw); go_simp; (try with_reducible rfl)
                    try simp only [Act.put, List.setIfInBounds_toArray, List.set_cons_zero, List.set_cons_succ]
                    refine wpAnyH_take (i := 19) (v := ?_) (by simp only [List.getElem?_toArray, List.getElem?_cons_zero, List.getElem?_cons_succ]; rfl) (by kernel_rfl) (by kernel_rfl) (by kernel_rfl) (by exact fun _ _ _ h => h) (Or.inl ⟨by rfl, ?_⟩) (by assumption) ?_
                    rotate_left
                    · intro w hSw; (try dsimp only at hSw); go_simp; (try with_reducible rfl)
                    try simp only [Act.put, List.setIfInBounds_toArray, List.set_cons_zero, List.set_cons_succ]
                    refine wpAnyH_done (by kernel_rfl) ?_ _
                    clear hd0 hd1 hd3 hd4 z0 z1 z2
                    by_cases hv : vc < 0
                    · have hv2 : ¬ 0 ≤ vc := by omega
                      have hv3 : decide (0 ≤ vc) = false := decide_eq_false hv2
                      have hab : aboveK (lastK acc) (key, 0, 0, ⟨#[]⟩) = true := by rw [HAb.out, decide_eq_true hv]
                      have hst2 : (if te ≠ 0 then (te, 0, []) else takeFrom bs (n - ((q + 1) + 1)) (at1 + 1 + L + tm) (acc ++ [(key, tk, tn, ts)])) = takeFrom bs n 1 [] := by
                        have h1 := HAcc3.out
                        rw [if_neg (by rw [hab]; decide)] at h1
                        exact h1
                      have HSt2 := Lib.hid hst2
                      have Bq : Below w.heap.size w w6 := (hbw.alloc hbw.size _).trans ((d6).mono (by simp; have := hbw.size; omega))
                      have hrq := HRd.out.below (Nat.le_refl _) Bq
                      have hq := (d6).size
                      rw [show (wr.alloc (.cells #[.string key, .int .i64 0, .int .i64 0, .string ⟨#[]⟩] 41)).heap.size = wr.heap.size + 1 from by simp] at hq
                      have hHq := HH.out.below d6 (by simp)
                      have HHq := Lib.hid hHq
                      clear hst2 hHq hab HAcc3 HH
                      by_cases hcb : c = at1 + 1 + L
                      · have hdn : bs.drop (at1 + 1 + L) = [] := List.drop_eq_nil_of_le (by omega)
                        have hte20 : te = 20 := by
                          have h1 := HTv.out
                          rw [hdn] at h1
                          exact (congrArg (fun p => p.2.2) h1).symm
                        have cT := refTake_any (some ad) 0 [] w6 (fun k hk => by simp at hk) (Nat.le_refl _) (by simp)
                        have cT2 : Calls Tryd.prog 46 #[.slice (some ad) (bs.length - (at1 + 1 + L)) 0] w6 fun e w' => e = .returned (.tuple #[valV 0 0 ⟨#[]⟩, .int .i64 0, .int .i64 20]) ∧ Below w6.heap.size w6 w' := by rw [show bs.length - (at1 + 1 + L) = 0 from by omega]; exact cT
                        have CT := Lib.hid cT2
                        have hout : takeP bs = (20, 0, []) := by
                          have h1 := HSt2.out
                          rw [hte20, if_pos (by decide)] at h1
                          rw [HP.out, ← h1]
                        have HO := Lib.hid hout
                        unfold valV at CT
                        clear cT cT2 hout hdn
                        go_wp2_with fail
                        refine CT.out.mono ?_
                        rintro e w7 ⟨rfl, b7⟩
                        go_wp2_with fail
                        exact bodyPost_ret (v := .tuple #[.slice none 0 0, .int .i64 0, .int .i64 20]) (by simp [results, Tryd.results22, go_sem]) rfl ⟨_, by rw [HO.out]; rfl, by rw [HO.out]; exact World.ownsRow_nil _ _ _ _, (btV Bq b7).alloc (btV Bq b7).size _⟩
                      · have cT := refTake_any (some (ad.add (at1 + 1 + L))) (c - (at1 + 1 + L)) (bs.drop (at1 + 1 + L)) w6 (hrq.dropT _) (by rw [List.length_drop]; omega) (by rw [List.length_drop]; omega)
                        rw [takeV_tv, HTv.out, List.length_drop] at cT
                        have CT := Lib.hid cT
                        unfold valV at CT
                        dsimp only at CT
                        clear cT
                        go_wp2_with fail
                        refine CT.out.mono ?_
                        rintro e w7 ⟨rfl, b7⟩
                        have hq7 := b7.size
                        by_cases hte : te = 0
                        · have h1 := HSt2.out
                          subst hte
                          rw [if_neg (by simp)] at h1
                          have HAc3 := Lib.hid h1
                          have d8 : Below w6.heap.size w6 (w7.alloc (.cells #[.int .i64 tk, .int .i64 tn, .string ts] 36)) := b7.alloc b7.size _
                          have hH8 := HHq.out.below d8 (by omega)
                          obtain ⟨⟨x0, x1, x2, x3⟩, y0, y1, y2, y3⟩ := hH8.at
                          obtain ⟨⟨v0, v1, v2⟩, _⟩ := (HoldV.new w7 tk tn ts).at
                          have hH9 := hH8.put3P tk tn ts
                          obtain ⟨⟨z0, z1, z2, z3⟩, _⟩ := hH9.at
                          have B8 := btV Bq d8
                          have B9 : Below w.heap.size w (put3P (w7.alloc (.cells #[.int .i64 tk, .int .i64 tn, .string ts] 36)) wr.heap.size tk tn ts) := below_put3P B8 hbw.size tk tn ts
                          have e9 : (put3P (w7.alloc (.cells #[.int .i64 tk, .int .i64 tn, .string ts] 36)) wr.heap.size tk tn ts).heap.size = w7.heap.size + 1 := by simp [put3P]
                          have hrow9 : PRow (put3P (w7.alloc (.cells #[.int .i64 tk, .int .i64 tn, .string ts] 36)) wr.heap.size tk tn ts) w.heap.size (.slice (some aa) acc.length c') acc.length acc := PRow.put3P (PRow.below (PRow.below (PRow.alloc' HRow.out _) d6 (Nat.le_refl _)) d8 (Nat.le_refl _)) wr.heap.size (fun e => by have := (World.ownsRow.lt HRow.out wr.heap.size e).2; omega) tk tn ts
                          have HRow9 := Lib.hid hrow9
                          have HB9 := Lib.hid B9
                          have HH9 := Lib.hid hH9
                          have hsum : IntKind.i64.wrap ((at1 : Int) + 1 + (L : Int) + (tm : Int)) = (at1 : Int) + 1 + (L : Int) + (tm : Int) := by rw [IntKind.wrap_i64]; omega
                          have HSum : Hid ((at1 : Int) + 1 + (L : Int) + (tm : Int) = ((at1 + 1 + L + tm : Nat) : Int)) := Lib.hid (by omega)
                          have hw9 : w.heap.size ≤ w7.heap.size + 1 := by have := B9.size; rw [e9] at this; exact this
                          have hs9 : wr.heap.size < w7.heap.size + 1 := by omega
                          clear hH8 hH9 h1 hrow9 B9 e9
                          dsimp only at x0 x1 x2 x3 v0 v1 v2 z0 z1 z2 z3
                          unfold put3P at z0 z1 z2 z3 HRow9 HB9 HH9
                          go_wp2_with (at_builtin; refine wpList_append_own _ rfl _ _ 22 rfl w.heap.size 41 i0 _ 4 48 Tryd.underlying22 hi hz0 hz1 hz2 rfl (by decide) _ _ _ rfl (World.ownsRow.alloc HRow9.out _) ⟨w7.heap.size + 1, 0, none⟩ 1 1 (cellsP (key, tk, tn, ts)) rfl rfl ?a4 (cellsP_z _) ?c4 ?d4 ?e4 ?_)
                          try (case a4 => exact (HoldP.cells (z := (key, tk, tn, ts)) (by
                            have := HoldP.new ((((w7.alloc (.cells #[.int .i64 tk, .int .i64 tn, .string ts] 36)).setCell { block := wr.heap.size, off := 1 } (.int .i64 tk)).setCell { block := wr.heap.size, off := 2 } (.int .i64 tn)).setCell { block := wr.heap.size, off := 3 } (.string ts)) key tk tn ts
                            simpa using this)))
                          try (case c4 => unfold maxLen; omega)
                          try (case d4 => omega)
                          try (case e4 => simp; omega)
                          intro v9 w9 hown9 hgrow9 _
                          have hB9 : Below w.heap.size w w9 := (HB9.out.alloc HB9.out.size _).grown hgrow9 (by simp; omega) (fun k' hk' => by have := (World.ownsRow.lt HRow9.out k' hk').1; omega)
                          go_wp2_with fail
                          go_roundw
                          case rel =>
                            refine ⟨(q + 1) + 1, at1 + 1 + L + tm, v9, acc ++ [(key, tk, tn, ts)], rfl, congrArg (Value.int .i64) HSum.out, by first | rfl | go_num, by omega, by rw [List.length_append, HAJ.out]; rfl, by omega, by omega, HAc3.out, fun z hz => ?_, ?_, hB9⟩
                            · rcases List.mem_append.1 hz with hz | hz
                              · exact HKs.out z hz
                              · obtain rfl := List.mem_singleton.1 hz
                                exact hksz
                            · exact PRow.snoc hown9 (by simp)
                          case measure => simp [intOf]; omega
                        · have hte1 : (te != 0) = true := by simpa using hte
                          have hout : takeP bs = (te, 0, []) := by
                            have h1 := HSt2.out
                            rw [if_pos hte] at h1
                            rw [HP.out, ← h1]
                          have HO := Lib.hid hout
                          clear hout
                          go_wp2_with fail
                          exact bodyPost_ret (v := .tuple #[.slice none 0 0, .int .i64 0, .int .i64 te]) (by simp [results, Tryd.results22, go_sem]) rfl ⟨_, by rw [HO.out]; rfl, by rw [HO.out]; exact World.ownsRow_nil _ _ _ _, (btV Bq b7).alloc (btV Bq b7).size _⟩
                    · have hv2 : 0 ≤ vc := by omega
                      have hv3 : decide (0 ≤ vc) = true := decide_eq_true hv2
                      have hout : takeP bs = (30, 0, []) := by
                        have h1 := HAcc3.out
                        rw [if_pos (by rw [HAb.out, decide_eq_false hv])] at h1
                        rw [HP.out, ← h1]
                      have HO := Lib.hid hout
                      clear hout
                      go_wp2_with fail
                      exact bodyPost_ret (v := .tuple #[.slice none 0 0, .int .i64 0, .int .i64 30]) (by simp [results, Tryd.results22, go_sem]) rfl ⟨_, by rw [HO.out]; rfl, by rw [HO.out]; exact World.ownsRow_nil _ _ _ _, (hbw.alloc hbw.size _).trans (d6.mono (by simp; have := hbw.size; omega))⟩
        · obtain rfl : j = n := by omega
          rw [Nat.sub_self] at hacc
          have hout : takeP bs = (0, at1, acc) := by rw [HP.out, ← hacc]; rfl
          have HO := Lib.hid hout
          obtain ⟨A', c', rfl, _⟩ := HRow.out.rd
          clear hout hacc
          go_wp2_with fail
          exact bodyPost_ret (v := .tuple #[.slice A' acc.length c', .int .i64 (at1 : Nat), .int .i64 0]) (by simp [results, Tryd.results22, go_sem]) rfl ⟨_, by rw [HO.out], by rw [HO.out]; exact HRow.out, hbw⟩

theorem takeS_short : ∀ (N : Nat) (acc : List UInt8) (at1 : Nat) (r s : List UInt8) (n : Nat), r.length ≤ N → acc.length ≤ 200 → takeS acc at1 r = .ok s n → s.length ≤ 200
  | N, acc, at1, [], s, n, _, _, h => by simp [takeS] at h
  | N, acc, at1, [c], s, n, _, _, h => by
    unfold takeS at h
    split at h
    · cases h
    · split at h <;> cases h
  | 0, acc, at1, c :: d :: r, s, n, hl, _, h => by simp at hl
  | N + 1, acc, at1, c :: d :: r, s, n, hl, ha, h => by
    simp only [List.length_cons] at hl
    unfold takeS at h
    split at h
    · split at h
      · injection h with h1 h2
        rw [← h1]; exact ha
      · split at h
        · split at h
          · cases h
          · exact takeS_short N _ _ r s n (by omega) (by rw [List.length_append]; simp; omega) h
        · cases h
    · split at h
      · cases h
      · exact takeS_short N _ _ (d :: r) s n (by simp only [List.length_cons]; omega) (by rw [List.length_append]; simp; omega) h
theorem takeS_no : ∀ (N : Nat) (acc : List UInt8) (at1 : Nat) (r : List UInt8) (e : Int), r.length ≤ N → takeS acc at1 r = .no e → e ≠ 0
  | N, acc, at1, [], e, _, h => by unfold takeS at h; injection h with h; omega
  | N, acc, at1, [c], e, _, h => by
    unfold takeS at h
    split at h
    · injection h with h; omega
    · split at h
      · injection h with h; omega
      · injection h with h; omega
  | 0, acc, at1, c :: d :: r, e, hl, h => by simp at hl
  | N + 1, acc, at1, c :: d :: r, e, hl, h => by
    simp only [List.length_cons] at hl
    unfold takeS at h
    split at h
    · split at h
      · cases h
      · split at h
        · split at h
          · injection h with h; omega
          · exact takeS_no N _ _ r e (by omega) h
        · injection h with h; omega
    · split at h
      · injection h with h; omega
      · exact takeS_no N _ _ (d :: r) e (by simp only [List.length_cons]; omega) h
theorem tvP_right (bs : List UInt8) (h : (tvP bs).2.2 = 0) : rightV (tvP bs).1.1 (tvP bs).1.2.1 (tvP bs).1.2.2 = true := by
  cases bs with
  | nil => exact absurd h (by unfold tvP; decide)
  | cons c r =>
    unfold tvP at h ⊢
    dsimp only at h ⊢
    by_cases c1 : c = 1
    · rw [if_pos c1] at h ⊢
      by_cases h8 : r.length < 8
      · rw [if_pos h8] at h; exact absurd h (by show ¬ (20 : Int) = 0; decide)
      · rw [if_neg h8]; unfold rightV; simp [ByteArray.toList_eq]
    · rw [if_neg c1] at h ⊢
      by_cases c2 : c = 2
      · rw [if_pos c2] at h ⊢
        cases ht : takeS [] 1 r with
        | ok s n =>
          have hs := takeS_short r.length [] 1 r s n (Nat.le_refl _) (by simp) ht
          unfold rightV
          have : (⟨s.toArray⟩ : ByteArray).size ≤ 200 := by show s.toArray.size ≤ 200; simpa using hs
          simp [this]
        | no e =>
          rw [ht] at h
          exact absurd h (takeS_no r.length [] 1 r e (Nat.le_refl _) ht)
      · rw [if_neg c2] at h; exact absurd h (by show ¬ (22 : Int) = 0; decide)
theorem lastK_snoc (acc : List Prop4) (z : Prop4) : lastK (acc ++ [z]) = some z.1 := by
  unfold lastK
  rw [if_neg (by simp)]
  congr 2
  simp
theorem asc_snoc {acc : List Prop4} {z : Prop4} (h : Asc acc) (hl : aboveK (lastK acc) z = true) : Asc (acc ++ [z]) := by
  unfold Asc at h ⊢
  rw [List.pairwise_append]
  refine ⟨h, List.pairwise_singleton _ _, fun a ha b hb => ?_⟩
  obtain rfl := List.mem_singleton.1 hb
  have hne : acc.length ≠ 0 := by
    intro e
    rw [List.length_eq_zero_iff.1 e] at ha
    cases ha
  unfold lastK at hl
  rw [if_neg hne] at hl
  have h1 : cmpK (acc.getD (acc.length - 1) Prop4.no).1 b.1 < 0 := of_decide_eq_true hl
  obtain ⟨i, hi, rfl⟩ := List.getElem_of_mem ha
  have e : acc[i] = acc.getD i Prop4.no := by rw [List.getD_eq_getElem?_getD, List.getElem?_eq_getElem hi]; rfl
  rw [e]
  rcases Nat.lt_or_ge i (acc.length - 1) with h2 | h2
  · exact cmpK_trans (Asc.lt (zs := acc) h h2 (by omega)) (Int.le_of_lt h1)
  · rw [show i = acc.length - 1 from by omega]; exact h1
theorem takeFrom_right (bs : List UInt8) : ∀ (k p : Nat) (acc : List Prop4) (m : Nat) (zs : List Prop4), p ≤ bs.length → (∀ z ∈ acc, nameK z = true ∧ okK z = true) → Asc acc → takeFrom bs k p acc = (0, m, zs) →
    (∀ z ∈ zs, nameK z = true ∧ okK z = true) ∧ Asc zs ∧ zs.length = acc.length + k ∧ m ≤ bs.length
  | 0, p, acc, m, zs, hp, h1, h2, h => by
    unfold takeFrom at h
    injection h with e1 e2
    injection e2 with e2 e3
    subst e2; subst e3
    exact ⟨h1, h2, rfl, hp⟩
  | k + 1, p, acc, m, zs, hp, h1, h2, h => by
    unfold takeFrom at h
    by_cases c1 : bs.length ≤ p
    · rw [if_pos c1] at h; exact absurd (show (20 : Int) = 0 from congrArg Prod.fst h) (by decide)
    · rw [if_neg c1] at h
      by_cases c2 : bs.length < p + 1 + (bs.getD p 0).toNat
      · rw [if_pos c2] at h; exact absurd (show (20 : Int) = 0 from congrArg Prod.fst h) (by decide)
      · rw [if_neg c2] at h
        by_cases c3 : nameL (runes (keyAt bs p).data.toList) = false
        · rw [if_pos c3] at h; exact absurd (show (30 : Int) = 0 from congrArg Prod.fst h) (by decide)
        · rw [if_neg c3] at h
          by_cases c4 : aboveK (lastK acc) (keyAt bs p, 0, 0, ⟨#[]⟩) = false
          · rw [if_pos c4] at h; exact absurd (show (30 : Int) = 0 from congrArg Prod.fst h) (by decide)
          · rw [if_neg c4] at h
            have hT := tvP_right (bs.drop (p + 1 + (bs.getD p 0).toNat))
            have hL := tvP_len (bs.drop (p + 1 + (bs.getD p 0).toNat))
            rw [List.length_drop] at hL
            obtain ⟨T, hTe⟩ : ∃ T, tvP (bs.drop (p + 1 + (bs.getD p 0).toNat)) = T := ⟨_, rfl⟩
            rw [hTe] at h hT hL
            dsimp only at h
            by_cases c5 : T.2.2 = 0
            · rw [if_neg (by simpa using c5)] at h
              have c3' : nameL (runes (keyAt bs p).data.toList) = true := by simpa using c3
              have c4' : aboveK (lastK acc) (keyAt bs p, T.1.1, T.1.2.1, T.1.2.2) = true := by
                have : aboveK (lastK acc) (keyAt bs p, 0, 0, ⟨#[]⟩) = true := by simpa using c4
                cases hlk : lastK acc with
                | none => rfl
                | some q => rw [hlk] at this; exact this
              obtain ⟨r1, r2, r3, r4⟩ := takeFrom_right bs k _ _ m zs (by omega) (fun z hz => by
                rcases List.mem_append.1 hz with hz | hz
                · exact h1 z hz
                · obtain rfl := List.mem_singleton.1 hz
                  exact ⟨c3', hT c5⟩) (asc_snoc h2 c4') h
              refine ⟨r1, r2, ?_, r4⟩
              rw [r3, List.length_append, List.length_singleton]
              omega
            · rw [if_pos c5] at h; exact absurd (congrArg Prod.fst h) c5
theorem takeP_right {bs : List UInt8} {m : Nat} {zs : List Prop4} (h : takeP bs = (0, m, zs)) : rightP zs = true ∧ m ≤ bs.length := by
  unfold takeP at h
  by_cases c1 : bs.length = 0
  · rw [if_pos c1] at h; exact absurd (show (20 : Int) = 0 from congrArg Prod.fst h) (by decide)
  · rw [if_neg c1] at h
    by_cases c2 : 16 < (bs.getD 0 0).toNat
    · rw [if_pos c2] at h; exact absurd (show (10 : Int) = 0 from congrArg Prod.fst h) (by decide)
    · rw [if_neg c2] at h
      obtain ⟨r1, r2, r3, r4⟩ := takeFrom_right bs _ 1 [] m zs (by omega) (fun z hz => by cases hz) List.Pairwise.nil h
      exact ⟨(rightP_iff zs).2 ⟨by rw [List.length_nil] at r3; omega, r1, r2⟩, r4⟩
theorem takeFrom_le (bs : List UInt8) : ∀ (k p : Nat) (acc : List Prop4), (takeFrom bs k p acc).2.2.length ≤ acc.length + k ∧ (p ≤ bs.length → (takeFrom bs k p acc).2.1 ≤ bs.length)
  | 0, p, acc => by unfold takeFrom; exact ⟨Nat.le_refl _, fun h => h⟩
  | k + 1, p, acc => by
    have hL := tvP_len (bs.drop (p + 1 + (bs.getD p 0).toNat))
    rw [List.length_drop] at hL
    have ih := takeFrom_le bs k (p + 1 + (bs.getD p 0).toNat + (tvP (bs.drop (p + 1 + (bs.getD p 0).toNat))).2.1) (acc ++ [(keyAt bs p, (tvP (bs.drop (p + 1 + (bs.getD p 0).toNat))).1.1, (tvP (bs.drop (p + 1 + (bs.getD p 0).toNat))).1.2.1, (tvP (bs.drop (p + 1 + (bs.getD p 0).toNat))).1.2.2)])
    unfold takeFrom
    split
    · exact ⟨Nat.zero_le _, fun _ => Nat.zero_le _⟩
    · split
      · exact ⟨Nat.zero_le _, fun _ => Nat.zero_le _⟩
      · split
        · exact ⟨Nat.zero_le _, fun _ => Nat.zero_le _⟩
        · split
          · exact ⟨Nat.zero_le _, fun _ => Nat.zero_le _⟩
          · dsimp only
            split
            · exact ⟨Nat.zero_le _, fun _ => Nat.zero_le _⟩
            · refine ⟨?_, fun _ => ih.2 (by omega)⟩
              have := ih.1
              rw [List.length_append, List.length_singleton] at this
              omega
theorem takeP_le (bs : List UInt8) : (takeP bs).2.2.length ≤ 16 ∧ (takeP bs).2.1 ≤ bs.length := by
  unfold takeP
  split
  · exact ⟨Nat.zero_le _, Nat.zero_le _⟩
  · split
    · exact ⟨Nat.zero_le _, Nat.zero_le _⟩
    · obtain ⟨h1, h2⟩ := takeFrom_le bs (bs.getD 0 0).toNat 1 []
      refine ⟨?_, h2 (by omega)⟩
      have : ([] : List Prop4).length = 0 := rfl
      omega
theorem rightP_keys {zs : List Prop4} (h : rightP zs = true) : ∀ k, k < zs.length → (zs.getD k Prop4.no).1.size ≤ 1000000 := fun k hk => by
  have h1 := (((rightP_iff zs).1 h).2.1 (zs.getD k Prop4.no) (by rw [List.getD_eq_getElem?_getD, List.getElem?_eq_getElem hk]; exact List.getElem_mem hk)).1
  have := name_size (a := (zs.getD k Prop4.no).1) h1
  omega
set_option maxRecDepth 100000 in
theorem append_nilT {w : World} {B n : Nat} {v : Value} {bs : List UInt8} (h : URow w B v n bs) (c : Nat) (ty : TypeId) :
    (Builtin.append_ #[43, 43] ty #[v, .slice none 0 c]).run Tryd.prog w = .ok v w := by
  obtain ⟨i0, hi, hz0, hz1, hz2⟩ := info_parts byte_infoV
  rcases h.2 with ⟨rfl, rfl⟩ | ⟨g, cap, cur, rfl, _, _, hnc, _⟩
  · simp [Builtin.append_, run_underlying Tryd.underlying43, sizeOf, typeInfo, hi, Builtin.lenOf, Builtin.firstCells]
  · simp [Builtin.append_, run_underlying Tryd.underlying43, sizeOf, typeInfo, hi, Builtin.lenOf, Builtin.firstCells, hnc, storeCells]
/-- Bytes appended to a row of the call's own, wherever they lie. -/
theorem wpList_append_bytes {w : World} {ops : Array Oper} {rest : List Oper} {o : Oper} {a : Act} {Q : Exit → Act → World → Prop} (hgd : o.guard = none) (s x : Operand)
    (ho : o.op = .call { callee := .builtin .append, args := #[s, x], argTypes := #[43, 43] }) (base : Nat) (v : Value) (n : Nat) (L : List UInt8) (hs : a.eval s = v) (hown : URow w base v n L)
    (A : Option Addr) (c : Nat) (bs : List UInt8) (hx : a.eval x = .slice A bs.length c) (hrd : RdB w A bs) (hn : n + bs.length ≤ 1000000) (hbase : base ≤ w.heap.size)
    (h : ∀ v' w', URow w' base v' (n + bs.length) (L ++ bs) → Below base w w' → wpList Tryd.prog ops Q rest (a.put o.dst v') w') : wpList Tryd.prog ops Q (o :: rest) a w := by
  obtain ⟨i0, hi, hz0, hz1, hz2⟩ := info_parts byte_infoV
  cases A with
  | none =>
    obtain rfl : bs = [] := hrd.none_nil
    refine wpList_plain hgd fun K hK => ?_
    have hk := h v w (by simpa using hown) (Below.refl _ _)
    unfold Oper.wp
    simp only [List.length_nil] at hx
    have hty : ∀ ty, (Builtin.append_ #[43, 43] ty #[v, .slice none 0 c]).run Tryd.prog w = .ok v w := fun ty => append_nilT hown c ty
    simp [execOp, ho, resolve, invoke, builtin, hs, hx, hty, Result.andThen]
    exact hK _ _ hk
  | some ad =>
    refine wpList_append_own _ hgd s x 43 ho base 5 i0 (.int .u8 0) 1 1 Tryd.underlying43 hi hz0 hz1 hz2 rfl (by decide) v n (L.map u8v) hs hown ad bs.length c (bs.map u8v) hx (by rw [List.length_map, Nat.mul_one]) hrd.news (u8v_one _) (by unfold maxLen; omega) (by omega) hbase ?_
    intro v' w' hown' hgrow _
    refine h v' w' ?_ ((Below.refl base w).grown hgrow hbase (fun k' hk' => (World.ownsRow.lt hown k' hk').1))
    unfold URow
    rw [List.map_append]
    exact hown'
theorem RdB_row {w : World} {B n g cap : Nat} {bs : List UInt8} (h : URow w B (.slice (some ⟨g, 0, none⟩) n cap) n bs) : RdB w (some ⟨g, 0, none⟩) bs := by
  have hl := h.lenT
  subst hl
  obtain ⟨A, c, e, h1, _⟩ := URow.rd h
  injection e with e1 e2 e3
  rw [e1]
  exact h1
theorem propsL_len : ∀ (zs : List Prop4), (∀ z ∈ zs, SmallP z) → (propsL zs).length ≤ zs.length * 3004
  | [], _ => by simp [propsL]
  | z :: r, h => by
    have ih := propsL_len r (fun y hy => h y (List.mem_cons_of_mem _ hy))
    obtain ⟨h1, h2, h3⟩ := h z List.mem_cons_self
    have hb := bytesV_len z.2.1 z.2.2.1 z.2.2.2 h3
    have hk : z.1.data.toList.length = z.1.size := Array.length_toList
    have e : propsL (z :: r) = propB z ++ propsL r := by unfold propsL; rw [List.flatMap_cons]
    rw [e, List.length_append, List.length_cons]
    unfold propB
    rw [List.length_cons, List.length_append, hk]
    omega
theorem propsB_len {zs : List Prop4} (h : ∀ z ∈ zs, SmallP z) : (propsB zs).length ≤ zs.length * 3004 + 1 := by
  have := propsL_len zs h
  unfold propsB
  rw [List.length_cons]
  omega
end Go.Proofs.YtgacphpkgaobkaaDoor
