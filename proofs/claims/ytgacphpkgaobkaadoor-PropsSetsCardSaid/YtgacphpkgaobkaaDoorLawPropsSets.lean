/- Which lists are right, and what is set, got and dropped, is what the document says, of any lists, which stay as they were: at every input of the tied card, with no condition beyond it. -/
import Derived.Test.YtgacphpkgaobkaaDoorDoor
import Derived.Test.YtgacphpkgaobkaaDoorPropLaws3
import Derived.Test.YtgacphpkgaobkaaDoorPost
namespace Go.Proofs.YtgacphpkgaobkaaDoor.propsSets
open Go.ChangeShapes Go.WideShapes Go.ChangeAt Go.RowKit
open Go.ChangeMaps (open_string shut_string)
set_option linter.unusedVariables false

set_option maxHeartbeats 40000000 in
set_option maxRecDepth 100000 in
theorem walk (a0 : Option Addr) (l0 c0 : Nat) (z0 : List Prop4) (a1 : Option Addr) (l1 c1 : Nat) (z1 : List Prop4) (a2 : Option Addr) (l2 c2 : Nat) (z2 : List ByteArray)  (w : World) (w0 : SlcP w a0 l0 c0 z0) (w1 : SlcP w a1 l1 c1 z1) (w2 : SlcS w a2 l2 c2 z2) (hT : Tabs w) :
    Calls Tryd.prog 3 #[.slice a0 l0 c0, .slice a1 l1 c1, .slice a2 l2 c2] w fun e w' => e = .returned (.bool true) ∧ Below w.heap.size w w' := by
  obtain ⟨rfl, hlc0, hn0, hrd0, hin0⟩ := w0
  obtain ⟨rfl, hlc1, hn1, hrd1, hin1⟩ := w1
  obtain ⟨rfl, hlc2, hrd2, hin2⟩ := w2
  have HT := Lib.hid hT
  have HR0 := Lib.hid hrd0
  have HR1 := Lib.hid hrd1
  have HR2 := Lib.hid hrd2
  have HF0 := Lib.hid (fair_of hin0)
  have HF1 := Lib.hid (fair_of hin1)
  clear hT hrd0 hrd1 hin0 hin1 hrd2 hin2
  go_enter Tryd.func3, Tryd.ntmps3
  go_wp2_with fail
  refine (awake_any _ HT.out).mono ?_
  rintro e x1 ⟨rfl, b1⟩
  have q0 := small_any a0 c0 z0 x1 (HR0.out.below (Nat.le_refl _) b1) hlc0
  cases hs0 : smallP z0 with
  | false =>
    rw [hs0] at q0
    have C0 := Lib.hid q0
    clear q0 hs0
    go_wp2_with fail
    refine C0.out.mono ?_
    rintro e x2 ⟨rfl, rfl⟩
    go_wp2_with fail
    refine (awake_any _ (Utf8Tabs_below HT.out b1)).mono ?_
    rintro e x3 ⟨rfl, b3⟩
    go_wp2_with fail
    go_ret
    exact ⟨rfl, btV b1 b3⟩
  | true =>
    rw [hs0] at q0
    have C0 := Lib.hid q0
    have HS0 := Lib.hid hs0
    clear q0 hs0
    go_wp2_with fail
    refine C0.out.mono ?_
    rintro e x2 ⟨rfl, rfl⟩
    have q1 := small_any a1 c1 z1 x1 (HR1.out.below (Nat.le_refl _) b1) hlc1
    cases hs1 : smallP z1 with
    | false =>
      rw [hs1] at q1
      have C1 := Lib.hid q1
      clear q1 hs1
      go_wp2_with fail
      refine C1.out.mono ?_
      rintro e x2 ⟨rfl, rfl⟩
      go_wp2_with fail
      refine (awake_any _ (Utf8Tabs_below HT.out b1)).mono ?_
      rintro e x3 ⟨rfl, b3⟩
      go_wp2_with fail
      go_ret
      exact ⟨rfl, btV b1 b3⟩
    | true =>
      rw [hs1] at q1
      have C1 := Lib.hid q1
      have HS1 := Lib.hid hs1
      clear q1 hs1
      go_wp2_with fail
      refine C1.out.mono ?_
      rintro e x2 ⟨rfl, rfl⟩
      have hl0 := (small_mem HS0.out).1
      have hl1 := (small_mem HS1.out).1
      by_cases hbig : 20 < z2.length
      · have hbig2 : (20 : Int) < (z2.length : Int) := by omega
        go_wp2_with fail
        refine (awake_any _ (Utf8Tabs_below HT.out b1)).mono ?_
        rintro e x3 ⟨rfl, b3⟩
        go_wp2_with fail
        go_ret
        exact ⟨rfl, btV b1 b3⟩
      · have hl2 : z2.length ≤ 20 := by omega
        have hbig2 : ¬ ((20 : Int) < (z2.length : Int)) := by omega
        clear hbig
        have HB0 := Lib.hid (small_big HS0.out)
        have HB1 := Lib.hid (small_big HS1.out)
        have HK0 : Hid (∀ z ∈ z0, z.1.size ≤ 1000000) := Lib.hid (fun z hz => (HB0.out z hz).1)
        have HK1 : Hid (∀ z ∈ z1, z.1.size ≤ 1000000) := Lib.hid (fun z hz => (HB1.out z hz).1)
        have HG0 : Hid (∀ k, k < z0.length → (z0.getD k Prop4.no).1.size ≤ 1000000) := Lib.hid (fun k hk => HK0.out _ (by rw [List.getD_eq_getElem?_getD, List.getElem?_eq_getElem hk]; exact List.getElem_mem hk))
        have CC0 := Lib.hid (copiedL_any a0 c0 z0 x1 (HR0.out.below (Nat.le_refl _) b1) hn0 hlc0 (by omega))
        go_wp2_with fail
        refine CC0.out.mono ?_
        rintro e x2 ⟨v7, rfl, row7, b2⟩
        have B2 := btV b1 b2
        obtain ⟨A7, c7, rfl, hc7, hA7, hrd7⟩ := row7.rd
        have HR7 := Lib.hid hrd7
        have CC1 := Lib.hid (copiedL_any a1 c1 z1 x2 (HR1.out.below (Nat.le_refl _) B2) hn1 hlc1 (by omega))
        clear row7 hrd7
        go_wp2_with fail
        refine CC1.out.mono ?_
        rintro e x3 ⟨v40, rfl, row40, b3⟩
        have B3 := btV B2 b3
        obtain ⟨A40, c40, rfl, hc40, hA40, hrd40⟩ := row40.rd
        have r7 := HR7.out.below (Nat.le_refl _) b3
        have cS := propsSet_any A7 A40 c7 c40 z0 z1 x3 r7 hA7 hrd40 hc7 hc40 (by omega) (by omega) HB0.out HB1.out (Utf8Tabs_below HT.out B3)
        obtain ⟨⟨f, x⟩, hfx⟩ : ∃ p, setP z0 z1 = p := ⟨_, rfl⟩
        rw [hfx] at cS
        have hxl := setP_le z0 z1
        rw [hfx] at hxl
        dsimp only at hxl
        have CS := Lib.hid cS
        have HFx := Lib.hid hfx
        clear cS hfx row40 hrd40 r7
        go_wp2_with fail
        refine CS.out.mono ?_
        rintro e x4 ⟨v8, rfl, row8, b4⟩
        have B4 := btV B3 b4
        have D4 := btV b3 b4
        obtain ⟨A8, c8, rfl, hc8, hA8, hrd8⟩ := row8.rd
        have HR8 := Lib.hid hrd8
        have rS := refSet_any a0 a1 c0 c1 z0 z1 x4 (HR0.out.below (Nat.le_refl _) B4) hn0 (HR1.out.below (Nat.le_refl _) B4) hlc0 hlc1 (by omega) HK0.out HK1.out
        rw [HFx.out] at rS
        have RS := Lib.hid rS
        dsimp only at hc8
        clear rS row8 hrd8
        go_wp2_with fail
        refine RS.out.mono ?_
        rintro e x5 ⟨v10, rfl, row10, b5⟩
        have B5 := btV B4 b5
        have D5 := btV D4 b5
        obtain ⟨A10, c10, rfl, hc10, hA10, hrd10⟩ := row10.rd
        dsimp only at hc10
        have HR10 := Lib.hid hrd10
        have s1 := refSame_any A7 a0 c7 c0 z0 z0 x5 (HR7.out.below (Nat.le_refl _) D5) (HR0.out.below (Nat.le_refl _) B5) hc7 hlc0 (by omega) (by omega)
        rw [decide_eq_true (rfl : z0 = z0)] at s1
        have S1 := Lib.hid s1
        clear s1 row10 hrd10
        go_wp2_with fail
        refine S1.out.mono ?_
        rintro e x6 ⟨rfl, b6⟩
        have B6 := btV B5 b6
        have D6 := btV D5 b6
        have p1 := propsRight_any a0 c0 z0 x6 (HR0.out.below (Nat.le_refl _) B6) HG0.out (by omega) (Utf8Tabs_below HT.out B6)
        obtain ⟨rb, hrb⟩ : ∃ b, rightP z0 = b := ⟨_, rfl⟩
        rw [hrb] at p1
        have P1 := Lib.hid p1
        have HRb := Lib.hid hrb
        clear p1 hrb
        go_wp2_with fail
        refine P1.out.mono ?_
        rintro e x7 ⟨rfl, b7⟩
        have B7 := btV B6 b7
        have D7 := btV D6 b7
        have p2 := refRightP_any a0 c0 z0 x7 (HR0.out.below (Nat.le_refl _) B7) hlc0 HG0.out
        rw [HRb.out] at p2
        have P2 := Lib.hid p2
        have hbb : (rb != rb) = false := by cases rb <;> rfl
        clear p2
        go_wp2_with fail
        refine P2.out.mono ?_
        rintro e x8 ⟨rfl, b8⟩
        have B8 := btV B7 b8
        have D8 := btV D7 b8
        have E8 : Below x5.heap.size x5 x8 := btV (btV b6 b7) b8
        have F8 : Below x4.heap.size x4 x8 := btV b5 E8
        have s2 := refSame_any A8 A10 c8 c10 x x x8 (HR8.out.below (Nat.le_refl _) F8) (HR10.out.below (Nat.le_refl _) E8) hc8 hc10 (by omega) (by omega)
        rw [decide_eq_true (rfl : x = x)] at s2
        have S2 := Lib.hid s2
        have hff : (f != f) = false := by simp
        clear s2
        go_wp2_with fail
        refine S2.out.mono ?_
        rintro e x9 ⟨rfl, b9⟩
        have B9 := btV B8 b9
        have D9 := btV D8 b9
        have s3 := propsSame_any a0 A7 c0 c7 z0 z0 x9 (HR0.out.below (Nat.le_refl _) B9) (HR7.out.below (Nat.le_refl _) D9) (by omega) (by omega)
        rw [decide_eq_true (rfl : z0 = z0)] at s3
        have S3 := Lib.hid s3
        clear s3
        go_wp2_with fail
        refine S3.out.mono ?_
        rintro e x10 ⟨rfl, b10⟩
        have B10 := btV B9 b10
        have D10 := btV D9 b10
        have F10 := btV (btV F8 b9) b10
        have d1 := propsDrop_any A7 a2 c7 c2 z0 z2 x10 (HR7.out.below (Nat.le_refl _) D10) hA7 (HR2.out.below (Nat.le_refl _) B10) hc7 (by omega) (by omega) HB0.out
        have DD1 := Lib.hid d1
        clear d1
        go_wp2_with fail
        refine DD1.out.mono ?_
        rintro e x11 ⟨v12, rfl, row12, b11⟩
        have B11 := btV B10 b11
        have D11 := btV D10 b11
        obtain ⟨A12, c12, rfl, hc12, hA12, hrd12⟩ := row12.rd
        have HR12 := Lib.hid hrd12
        have s4 := refSame_any A7 a0 c7 c0 z0 z0 x11 (HR7.out.below (Nat.le_refl _) D11) (HR0.out.below (Nat.le_refl _) B11) hc7 hlc0 (by omega) (by omega)
        rw [decide_eq_true (rfl : z0 = z0)] at s4
        have S4 := Lib.hid s4
        clear s4 row12 hrd12
        go_wp2_with fail
        refine S4.out.mono ?_
        rintro e x12 ⟨rfl, b12⟩
        have B12 := btV B11 b12
        have d2 := refDrop_any a0 a2 c0 c2 z0 z2 x12 (HR0.out.below (Nat.le_refl _) B12) (HR2.out.below (Nat.le_refl _) B12) hlc0 hlc2 (by omega) (by omega)
        have DD2 := Lib.hid d2
        clear d2
        go_wp2_with fail
        refine DD2.out.mono ?_
        rintro e x13 ⟨v89, rfl, row89, b13⟩
        have B13 := btV B12 b13
        obtain ⟨A89, c89, rfl, hc89, hA89, hrd89⟩ := row89.rd
        have hdl : (dropP z0 z2).length ≤ 1000000 := Nat.le_trans (List.length_filter_le _ _) (by omega)
        have s5 := refSame_any A12 A89 c12 c89 (dropP z0 z2) (dropP z0 z2) x13 (HR12.out.below (Nat.le_refl _) (btV b12 b13)) hrd89 hc12 hc89 hdl hdl
        rw [decide_eq_true (rfl : dropP z0 z2 = dropP z0 z2)] at s5
        have S5 := Lib.hid s5
        clear s5 row89 hrd89
        go_wp2_with fail
        refine S5.out.mono ?_
        rintro e x14 ⟨rfl, b14⟩
        have B14 := btV B13 b14
        have F14 := btV (btV (btV (btV F10 b11) b12) b13) b14
        go_wp2_with fail
        go_loopw [13] (fun i wr => ∃ k : Nat, k ≤ z2.length ∧ i = .int .i64 (k : Nat) ∧ Below x14.heap.size x14 wr) (fun i _ => z2.length - (intOf i).toNat)
        case atStart => exact ⟨0, Nat.zero_le _, rfl, Below.refl _ _⟩
        case round =>
          obtain ⟨k, hk, rfl, hbw⟩ := hrel
          have hdw : ∀ {a W : World}, Below a.heap.size a W → ∀ n, Below a.heap.size a (W.drewN n) := fun h n => ⟨h.os, h.tape, h.output, h.size, h.block⟩
          have Bw := btV B14 hbw
          by_cases hlt : k < z2.length
          · obtain ⟨ad, rfl, hblk, hcell⟩ := (HR2.out.below (Nat.le_refl _) Bw) k hlt
            obtain ⟨key, hkey⟩ : ∃ y, z2.getD k ByteArray.empty = y := ⟨_, rfl⟩
            rw [hkey] at hcell
            clear hkey
            have g1 := propsGet_any a0 c0 z0 key wr (HR0.out.below (Nat.le_refl _) Bw) (by omega) HB0.out
            rcases find_get z0 key 0 with ⟨h1, h2⟩ | ⟨i, hi, h1, h2⟩
            · rw [h2] at g1
              have G1 := Lib.hid g1
              have H1 := Lib.hid h1
              have HCell := Lib.hid hcell
              clear g1 h1 h2
              go_wp2_with fail
              refine G1.out.mono ?_
              rintro e y1 ⟨rfl, d1⟩
              have d2 : Below wr.heap.size wr (y1.alloc (.cells #[.int .i64 0, .int .i64 0, .string ByteArray.empty] 36)) := d1.alloc d1.size _
              have hcell2 := (World.cell?_of_block (d2.block (ad.add k).block (by rw [add_block]; exact hblk))).trans HCell.out
              have cF := refFind_any a0 c0 z0 key (y1.alloc (.cells #[.int .i64 0, .int .i64 0, .string ByteArray.empty] 36)) ((HR0.out.below (Nat.le_refl _) Bw).below (Nat.le_refl _) d2) hlc0 (by omega)
              rw [H1.out] at cF
              have CF := Lib.hid cF
              clear cF hcell
              unfold valV
              go_wp2_with fail
              refine CF.out.mono ?_
              rintro e y2 ⟨rfl, rfl⟩
              obtain ⟨⟨t0, t1, t2⟩, _⟩ := (HoldV.new y1 0 0 ByteArray.empty).at
              have hnv := fun W => neq_val 0 0 ByteArray.empty 0 0 ByteArray.empty W
              rw [show sameV 0 0 ByteArray.empty 0 0 ByteArray.empty = true from by rw [sameV_iff]; simp] at hnv
              unfold valV at hnv
              dsimp only at t0 t1 t2
              have hnv2 : ∀ W, (binOp .neq 36 (.agg #[.int .i64 0, .int .i64 0, .string ByteArray.empty]) (.agg #[.int .i64 0, .int .i64 0, .string ⟨#[]⟩])).run Tryd.prog W = .ok (.bool (!true)) W := hnv
              go_wp2_with fail
              go_quiet (fail)
              go_wp2_with fail
              go_roundw
              case rel => exact ⟨k + 1, by omega, by go_num, hdw (btV hbw d2) _⟩
              case measure => simp [intOf]; omega
            · rw [h2] at g1
              rw [Nat.zero_add] at h1
              obtain ⟨ae, rfl, hblk2, p0, p1, p2, p3⟩ := (HR0.out.below (Nat.le_refl _) Bw).at4 hi
              obtain ⟨z, hz⟩ : ∃ z, z0.getD i Prop4.no = z := ⟨_, rfl⟩
              rw [hz] at p0 p1 p2 p3 g1
              clear hz
              obtain ⟨za, zk, zn, zs⟩ := z
              dsimp only at p0 p1 p2 p3 g1
              have G1 := Lib.hid g1
              have H1 := Lib.hid h1
              have HCell := Lib.hid hcell
              clear g1 h1 h2
              go_wp2_with fail
              refine G1.out.mono ?_
              rintro e y1 ⟨rfl, d1⟩
              have d2 : Below wr.heap.size wr (y1.alloc (.cells #[.int .i64 zk, .int .i64 zn, .string zs] 36)) := d1.alloc d1.size _
              have hcell2 := (World.cell?_of_block (d2.block (ad.add k).block (by rw [add_block]; exact hblk))).trans HCell.out
              have p1' := (World.cell?_of_block (a := { block := (ae.add (i * 4)).block, off := (ae.add (i * 4)).off + 1 }) (d2.block (ae.add (i * 4)).block (by rw [add_block]; exact hblk2))).trans p1
              have p2' := (World.cell?_of_block (a := { block := (ae.add (i * 4)).block, off := (ae.add (i * 4)).off + 2 }) (d2.block (ae.add (i * 4)).block (by rw [add_block]; exact hblk2))).trans p2
              have p3' := (World.cell?_of_block (a := { block := (ae.add (i * 4)).block, off := (ae.add (i * 4)).off + 3 }) (d2.block (ae.add (i * 4)).block (by rw [add_block]; exact hblk2))).trans p3
              have cF := refFind_any (some ae) c0 z0 key (y1.alloc (.cells #[.int .i64 zk, .int .i64 zn, .string zs] 36)) ((HR0.out.below (Nat.le_refl _) Bw).below (Nat.le_refl _) d2) hlc0 (by omega)
              rw [H1.out] at cF
              have CF := Lib.hid cF
              clear cF hcell
              unfold valV
              go_wp2_with fail
              refine CF.out.mono ?_
              rintro e y2 ⟨rfl, rfl⟩
              obtain ⟨⟨t0, t1, t2⟩, _⟩ := (HoldV.new y1 zk zn zs).at
              have hnv := fun W => neq_val zk zn zs zk zn zs W
              rw [show sameV zk zn zs zk zn zs = true from by rw [sameV_iff]; simp] at hnv
              unfold valV at hnv
              dsimp only at t0 t1 t2
              go_wp2_with fail
              go_quiet (fail)
              go_wp2_with fail
              go_roundw
              case rel => exact ⟨k + 1, by omega, by go_num, hdw (btV hbw d2) _⟩
              case measure => simp [intOf]; omega
          · obtain rfl : k = z2.length := by omega
            by_cases hf : f = 0
            · subst hf
              have hrx := setP_right HFx.out
              have hrd := dropP_right z2 hrx
              have hbx := setP_big HFx.out HS0.out HS1.out
              have HRx := Lib.hid hrx
              have HRd := Lib.hid hrd
              have Fw := btV F14 hbw
              have q1 := propsRight_any A8 c8 x wr (HR8.out.below (Nat.le_refl _) Fw) (fun k hk => (hbx _ (by rw [List.getD_eq_getElem?_getD, List.getElem?_eq_getElem hk]; exact List.getElem_mem hk)).1) (by omega) (Utf8Tabs_below HT.out Bw)
              rw [HRx.out] at q1
              have Q1 := Lib.hid q1
              have HBx := Lib.hid hbx
              clear hrx hrd hbx q1
              go_wp2_with fail
              refine Q1.out.mono ?_
              rintro e y1 ⟨rfl, d1⟩
              have W1 := btV Bw d1
              have d := propsDrop_any A8 a2 c8 c2 x z2 y1 (HR8.out.below (Nat.le_refl _) (btV Fw d1)) hA8 (HR2.out.below (Nat.le_refl _) W1) hc8 (by omega) (by omega) HBx.out
              have DD := Lib.hid d
              clear d
              go_wp2_with fail
              refine DD.out.mono ?_
              rintro e y2 ⟨vd, rfl, rowd, d2⟩
              have W2 := btV W1 d2
              obtain ⟨Ad, cd, rfl, hcd, hAd, hrdd⟩ := rowd.rd
              have hdl2 : (dropP x z2).length ≤ 1000000 := Nat.le_trans (List.length_filter_le _ _) (by omega)
              have q2 := propsRight_any Ad cd (dropP x z2) y2 hrdd (fun k hk => (HBx.out _ (dropP_mem _ (by rw [List.getD_eq_getElem?_getD, List.getElem?_eq_getElem hk]; exact List.getElem_mem hk))).1) hdl2 (Utf8Tabs_below HT.out W2)
              rw [HRd.out] at q2
              have Q2 := Lib.hid q2
              clear q2 rowd hrdd
              go_wp2_with fail
              refine Q2.out.mono ?_
              rintro e y3 ⟨rfl, d3⟩
              go_wp2_with fail
              go_ret
              exact ⟨rfl, btV W2 d3⟩
            · have hf1 : (f != 0) = true := by simpa using hf
              go_wp2_with fail
              go_ret
              exact ⟨rfl, Bw⟩

set_option maxRecDepth 100000 in
theorem lifted (os : Os) (started : os.Started) (H : Type) (enc : TypeId × Value → H) :
    ReturnsInHanded {} Tryd.checked os 3 .any (fun w args => (Rows.propsSetsSpec.pre enc Tryd.prog Tryd.f3 [] false w args ∧ laidMetH Tryd.prog Rows.propsSetsRow.laid w) ∧ sizedMet enc Tryd.prog Tryd.f3 (OpenSpec.ofChange Rows.propsSetsSpec) false w args) (Rows.propsSetsSpec.post enc Tryd.prog Tryd.f3 false true false false) := by
  refine returnsInHanded_of_change_and (C := Tryd.checked) (X := fun w _ => laidMetH Tryd.prog Rows.propsSetsRow.laid w) (fun _ _ _ hh h => h.of_heap hh) own started (by kernel_rfl) Tryd.func3
    (ChangeSpec.witness_shaped (enc := enc) (C := Tryd.checked) (os := os) (X := fun w _ => laidMetH Tryd.prog Rows.propsSetsRow.laid w) false (World.laidAll Tryd.prog os Rows.propsSetsRow.laid) #[.slice none 0 0, .slice none 0 0, .slice none 0 0] 8 (World.laidAll_os _ _ _)
      (World.shaped_of_ZipB (by kernel_rfl) (by kernel_rfl)) (by kernel_rfl) (by kernel_rfl) (by kernel_rfl)
      (by rw [MakeChecks.laidMetH_plain _ _ _ (by kernel_rfl)]; exact laidMet_laidAll _ (by kernel_rfl) (by kernel_rfl))) ?_
  intro W base args ds gs before hval0 hW _ _ hL _
  have hval : ∀ (j : Nat) t v, Tryd.f3.params[j]? = some t → args[j]? = some v → Value.okWide Tryd.prog W .any base t v := hval0
  have hW' := hW
  obtain ⟨p, q, hA0, hV, rfl, hfz, hnd⟩ := hW
  have hA : DataW.TrodAll enc Tryd.prog W 0 (fun _ => true) true Tryd.f3.params.toList args.toList ds p := hA0
  rw [Tryd.params3] at hA hval
  obtain ⟨v0, vs0, d0, ds0, p0, q0, hargs, rfl, rfl, h0, r0⟩ := trodAll_cons hA
  obtain ⟨v1, vs1, d1, ds1, p1, q1, rfl, rfl, rfl, h1, r1⟩ := trodAll_cons r0
  obtain ⟨v2, vs2, d2, ds2, p2, q2, rfl, rfl, rfl, h2, r2⟩ := trodAll_cons r1
  obtain ⟨rfl, rfl, rfl⟩ := trodAll_nil r2
  obtain rfl : args = #[v0, v1, v2] := by cases args; simp_all
  obtain ⟨rfl, rfl⟩ := trodVars_none hV
  obtain ⟨a0, l0, c0, rfl⟩ := okWide_slice Tryd.underlying22 (hval 0 22 v0 rfl rfl)
  have tk0 := h0
  have lt0 : ∀ x ∈ p0, x.block < W.heap.size := by obtain ⟨m, hm⟩ := tk0; exact DataW.trod_lt m _ _ _ hm
  obtain ⟨z0, w0⟩ : ∃ zs, SlcP W a0 l0 c0 zs := by
    obtain ⟨fuel, hf⟩ := h0
    exact open_props (by simpa [Value.cells] using hf)
  obtain ⟨a1, l1, c1, rfl⟩ := okWide_slice Tryd.underlying22 (hval 1 22 v1 rfl rfl)
  have tk1 := h1
  have lt1 : ∀ x ∈ p1, x.block < W.heap.size := by obtain ⟨m, hm⟩ := tk1; exact DataW.trod_lt m _ _ _ hm
  obtain ⟨z1, w1⟩ : ∃ zs, SlcP W a1 l1 c1 zs := by
    obtain ⟨fuel, hf⟩ := h1
    exact open_props (by simpa [Value.cells] using hf)
  obtain ⟨a2, l2, c2, rfl⟩ := okWide_slice Tryd.underlying23 (hval 2 23 v2 rfl rfl)
  have k2 := h2
  have lt2 : ∀ x ∈ p2, x.block < W.heap.size := by obtain ⟨m, hm⟩ := k2; exact DataW.trod_lt m _ _ _ hm
  obtain ⟨z2, w2⟩ : ∃ zs, SlcS W a2 l2 c2 zs := by
    obtain ⟨fuel, hf⟩ := h2
    rcases open_strings Tryd.underlying23 Tryd.underlying9 (by kernel_rfl) hf with ⟨hcs, _⟩ | ⟨x, l, c, zs, hcs, _, hl, hm, hz, _, hcell, hwz⟩
    · simp [Value.cells] at hcs
      obtain ⟨rfl, rfl, rfl⟩ := hcs
      exact ⟨[], SlcS.none_ W⟩
    · simp [Value.cells] at hcs
      obtain ⟨rfl, rfl, rfl⟩ := hcs
      exact ⟨_, SlcS.some_ hl hm (by simpa using hz) hcell hwz⟩
  clear hA0 hval0
  rw [MakeChecks.laidMetH_plain _ _ _ (by kernel_rfl)] at hL
  have hT : Tabs W := tabs_of_laid hL
  refine (walk a0 l0 c0 z0 a1 l1 c1 z1 a2 l2 c2 z2  W w0 w1 w2 hT).mono fun e W' ⟨he, bel⟩ => ?_
  subst he
  exact ⟨_, rfl, _, _, _, [], _, [], hW', trodAll_mk1 (shut_bool Tryd.underlying4 _), (trodAll_cons_mk (Below.trod laidOut (by kernel_rfl) (of_decide_eq_true (by kernel_rfl)) tk0 bel lt0) (trodAll_cons_mk (Below.trod laidOut (by kernel_rfl) (of_decide_eq_true (by kernel_rfl)) tk1 bel lt1) (trodAll_cons_mk (Below.trod laidOut (by kernel_rfl) (of_decide_eq_true (by kernel_rfl)) k2 bel lt2) trodAll_mk0))), rfl, bel.frame _, fun h => by cases h⟩

theorem over : Rows.propsSetsRow.holds Tryd.pinned (OpenSpec.ofChange Rows.propsSetsSpec) :=
  OpenClaim.holds_of_wide 3 Tryd.f3 rfl rfl rfl rfl rfl rfl rfl ⟨rfl, rfl, rfl, rfl, rfl⟩ rfl rfl rfl rfl rfl (by kernel_rfl) Tryd.func3 (by kernel_rfl)
    (of_decide_eq_true (by kernel_rfl)) (by unfold Func.isWrapper; first | (rw [if_pos (by decide +kernel)]; kernel_rfl) | (rw [if_neg (by decide +kernel)]; exact ⟨rfl, rfl⟩))
    (fun os started H enc _ => lifted os started H enc)
theorem proved : Rows.PropsSetsCardSaid :=
  Claim7.holds_tied_plain_at .later [] [.data, .pinned] true _ true
    over (fun _ h => by cases h) (by kernel_rfl) (fun _ h => by cases h) propsSets_row_tie rfl ⟨rfl, rfl⟩ (by kernel_rfl) rfl
    (fun f fn hf hfn => by
      obtain rfl : f = 3 := Option.some.inj ((show Tryd.prog.funcNamed "cobweb/cobweblaw03.PropsSets" = some 3 by kernel_rfl).symm.trans hf) |>.symm
      obtain rfl : fn = Tryd.f3 := (Option.some.inj (Tryd.func3.symm.trans hfn)).symm
      exact ⟨by kernel_rfl, fun j t ht => by
        rw [Tryd.params3] at ht
        have hm : t ∈ [22, 22, 23] := by simpa using Array.mem_of_getElem? ht
        have hall : ([22, 22, 23].all fun u => !Tryd.prog.wantsStandIn u) = true := by kernel_rfl
        exact (show Tryd.prog.wantsStandIn t = false by simpa using List.all_eq_true.1 hall t hm)⟩)
    (by kernel_rfl)
end Go.Proofs.YtgacphpkgaobkaaDoor.propsSets
