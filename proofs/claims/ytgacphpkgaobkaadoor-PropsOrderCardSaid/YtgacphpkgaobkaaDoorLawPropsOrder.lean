/- Set one by one, in one call, or in another order where their names differ, properties come to the same list; set and dropped again it is as without them; each that was set is got: at every input of the tied card, with no condition beyond it. -/
import Derived.Test.YtgacphpkgaobkaaDoorDoor
import Derived.Test.YtgacphpkgaobkaaDoorPropTurns
import Derived.Test.YtgacphpkgaobkaaDoorPost
namespace Go.Proofs.YtgacphpkgaobkaaDoor.propsOrder
open Go.ChangeShapes Go.WideShapes Go.ChangeAt Go.RowKit
open Go.ChangeMaps (open_string shut_string)
set_option linter.unusedVariables false

set_option maxHeartbeats 40000000 in
set_option maxRecDepth 100000 in
theorem walk (a0 : Option Addr) (l0 c0 : Nat) (z0 : List Prop4) (a1 : Option Addr) (l1 c1 : Nat) (z1 : List Prop4) (a2 : Int) (w2 : (Lit.int .i64 a2).wf = true) (w : World) (w0 : SlcP w a0 l0 c0 z0) (w1 : SlcP w a1 l1 c1 z1) (hT : Tabs w) :
    Calls Tryd.prog 5 #[.slice a0 l0 c0, .slice a1 l1 c1, .int .i64 a2] w fun e w' => e = .returned (.bool true) ∧ Below w.heap.size w w' := by
  obtain ⟨rfl, hlc0, hn0, hrd0, hin0⟩ := w0
  obtain ⟨rfl, hlc1, hn1, hrd1, hin1⟩ := w1
  have HT := Lib.hid hT
  have HR0 := Lib.hid hrd0
  have HR1 := Lib.hid hrd1
  have HF0 := Lib.hid (fair_of hin0)
  have HF1 := Lib.hid (fair_of hin1)
  clear hT hrd0 hrd1 hin0 hin1
  go_enter Tryd.func5, Tryd.ntmps5
  go_wp2_with fail
  refine (awake_any _ HT.out).mono ?_
  rintro e x1 ⟨rfl, b1⟩
  have q0 := small_any a0 c0 z0 x1 (HR0.out.below (Nat.le_refl _) b1) hlc0
  cases hs0 : smallP z0 with
  | false =>
    rw [hs0] at q0
    have C0 := Lib.hid q0
    clear q0 hs0
    go_wp2_with fail
    refine C0.out.mono ?_
    rintro e x2 ⟨rfl, rfl⟩
    go_wp2_with fail
    refine (awake_any _ (Utf8Tabs_below HT.out b1)).mono ?_
    rintro e x3 ⟨rfl, b3⟩
    go_wp2_with fail
    go_ret
    exact ⟨rfl, btV b1 b3⟩
  | true =>
    rw [hs0] at q0
    have C0 := Lib.hid q0
    have HS0 := Lib.hid hs0
    clear q0 hs0
    go_wp2_with fail
    refine C0.out.mono ?_
    rintro e x2 ⟨rfl, rfl⟩
    have q1 := small_any a1 c1 z1 x1 (HR1.out.below (Nat.le_refl _) b1) hlc1
    cases hs1 : smallP z1 with
    | false =>
      rw [hs1] at q1
      have C1 := Lib.hid q1
      clear q1 hs1
      go_wp2_with fail
      refine C1.out.mono ?_
      rintro e x2 ⟨rfl, rfl⟩
      go_wp2_with fail
      refine (awake_any _ (Utf8Tabs_below HT.out b1)).mono ?_
      rintro e x3 ⟨rfl, b3⟩
      go_wp2_with fail
      go_ret
      exact ⟨rfl, btV b1 b3⟩
    | true =>
      rw [hs1] at q1
      have C1 := Lib.hid q1
      have HS1 := Lib.hid hs1
      clear q1 hs1
      go_wp2_with fail
      refine C1.out.mono ?_
      rintro e x2 ⟨rfl, rfl⟩
      have hl0 := (small_mem HS0.out).1
      have hl1 := (small_mem HS1.out).1
      by_cases hemp : z1.length = 0
      · have hemp2 : ((z1.length : Int) == 0) = true := by simp [hemp]
        go_wp2_with fail
        refine (awake_any _ (Utf8Tabs_below HT.out b1)).mono ?_
        rintro e x3 ⟨rfl, b3⟩
        go_wp2_with fail
        go_ret
        exact ⟨rfl, btV b1 b3⟩
      · have hemp2 : ((z1.length : Int) == 0) = false := by rw [beq_eq_false_iff_ne]; omega
        have HB0 := Lib.hid (small_big HS0.out)
        have HB1 := Lib.hid (small_big HS1.out)
        have cS := propsSet_any a0 a1 c0 c1 z0 z1 x1 (HR0.out.below (Nat.le_refl _) b1) hn0 (HR1.out.below (Nat.le_refl _) b1) hlc0 hlc1 (by omega) (by omega) HB0.out HB1.out (Utf8Tabs_below HT.out b1)
        have hxl := setP_le z0 z1
        obtain ⟨⟨f, x⟩, hfx⟩ : ∃ p, setP z0 z1 = p := ⟨_, rfl⟩
        rw [hfx] at cS hxl
        dsimp only at hxl
        have CS := Lib.hid cS
        have HFx := Lib.hid hfx
        clear cS hfx
        go_wp2_with fail
        refine CS.out.mono ?_
        rintro e x2 ⟨v7, rfl, row7, b2⟩
        have B2 := btV b1 b2
        by_cases hf : f = 0
        · subst hf
          obtain ⟨A7, c7, rfl, hc7, hA7, hrd7⟩ := row7.rd
          dsimp only at hc7
          have HR7 := Lib.hid hrd7
          have CC0 := Lib.hid (copiedL_any a0 c0 z0 x2 (HR0.out.below (Nat.le_refl _) B2) hn0 hlc0 (by omega))
          clear row7 hrd7
          go_wp2_with fail
          refine CC0.out.mono ?_
          rintro e x3 ⟨v9, rfl, row9, b3⟩
          have B3 := btV B2 b3
          obtain ⟨i1, hi1, hs0', hs1', hs2'⟩ := info_parts str_info
          have hwn := setP_one HFx.out
          have HOne := Lib.hid hwn
          have HRow9 := Lib.hid (row9.base B2.size)
          obtain ⟨A9, c9, rfl, _⟩ := row9.rd
          clear hwn row9
          go_wp2_with fail
          go_loopw [9, 10, 11, 12] (fun xo xk xb i wr => ∃ (k : Nat) (vo vk : Value) (b : Bool), vo = xo ∧ vk = xk ∧ xb = .bool b ∧ i = .int .i64 (k : Nat) ∧ k ≤ z1.length ∧ PRow wr w.heap.size vo (foldP z0 (z1.take k)).length (foldP z0 (z1.take k)) ∧ KRow wr x2.heap.size vk k ((z1.take k).map (·.1)) ∧ (b = true → KeysApart (z1.take k)) ∧ Below x2.heap.size x2 wr) (fun _ _ _ i _ => z1.length - (intOf i).toNat)
          case atStart => exact ⟨0, _, _, true, rfl, rfl, rfl, rfl, Nat.zero_le _, HRow9.out, World.ownsRow_nil _ _ _ _, fun _ => List.Pairwise.nil, b3⟩
          case round =>
            obtain ⟨k, vo, vk, b, rfl, rfl, rfl, rfl, hk, hro, hrk, hba, hbx⟩ := hrel
            have Bw := btV B2 hbx
            obtain ⟨Ao, co, rfl, hco, hAo, hrdo⟩ := hro.rd
            by_cases hlt : k < z1.length
            · obtain ⟨ad, rfl, hblk, p0, p1, p2, p3⟩ := (HR1.out.below (Nat.le_refl _) Bw).at4 hlt
              have hone := HOne.out k hlt
              have hmem : z1.getD k Prop4.no ∈ z1 := by rw [List.getD_eq_getElem?_getD, List.getElem?_eq_getElem hlt]; exact List.getElem_mem hlt
              have htk := take_succ_getD z1 k hlt
              have hbo : ∀ z ∈ foldP z0 (z1.take k), z.1.size ≤ 1000000 ∧ z.2.2.2.size ≤ 1000000 := fun z hz => by
                rcases foldP_mem _ _ z hz with h | h
                · exact HB0.out z h
                · exact HB1.out z (List.mem_of_mem_take h)
              have hol : (foldP z0 (z1.take k)).length ≤ 16 := fold_take_le HFx.out k
              obtain ⟨z, hz⟩ : ∃ z, z1.getD k Prop4.no = z := ⟨_, rfl⟩
              rw [hz] at p0 p1 p2 p3 hone htk hmem
              have HZ := Lib.hid hz
              clear hz
              obtain ⟨za, zk, zn, zs⟩ := z
              dsimp only at p0 p1 p2 p3
              have dd1 : Below wr.heap.size wr (wr.alloc (.cells #[.string za, .int .i64 zk, .int .i64 zn, .string zs] 41)) := (Below.refl _ _).alloc (Nat.le_refl _) _
              have hr1 : RdP (wr.alloc (.cells #[.string za, .int .i64 zk, .int .i64 zn, .string zs] 41)) (some ⟨wr.heap.size, 0, none⟩) [(za, zk, zn, zs)] := RdP.of_block (heap_alloc_new wr _)
              have cS1 := propsSet_any Ao (some ⟨wr.heap.size, 0, none⟩) co 1 (foldP z0 (z1.take k)) [(za, zk, zn, zs)] _ (hrdo.below (Nat.le_refl _) dd1) hAo hr1 hco (Nat.le_refl _) (by omega) (by simp) hbo (fun y hy => by rw [List.mem_singleton.1 hy]; exact HB1.out _ hmem) (Utf8Tabs_below HT.out (btV Bw dd1))
              rw [hone] at cS1
              have CS1 := Lib.hid cS1
              have HTk := Lib.hid htk
              have HRk := Lib.hid hrk
              have HBa := Lib.hid hba
              clear cS1 hr1 hbo hone htk hrk hba hro hrdo
              go_wp2_with fail
              refine CS1.out.mono ?_
              rintro e y1 ⟨vn, rfl, rown, d1⟩
              have dw1 : Below wr.heap.size wr y1 := btV dd1 d1
              obtain ⟨An, cn, rfl, hcn, hAn, hrdn⟩ := rown.rd
              dsimp only at hcn rown
              have HRown := Lib.hid rown
              obtain ⟨ae, hae, hblk1, r0, r1, r2, r3⟩ := ((HR1.out.below (Nat.le_refl _) Bw).below (Nat.le_refl _) dw1).at4 hlt
              obtain rfl : ad = ae := by injection hae
              rw [HZ.out] at r0 r1 r2 r3
              dsimp only at r0 r1 r2 r3
              clear p0 p1 p2 p3 hrdn rown hae
              have hkc : (k : Int) ≤ (c1 : Int) := by omega
              have hdw : ∀ {a W : World}, Below a.heap.size a W → ∀ n, Below a.heap.size a (W.drewN n) := fun h n => ⟨h.os, h.tape, h.output, h.size, h.block⟩
              cases b with
              | false =>
                go_wp2_with fail
                go_quiet (fail)
                have r0' : (y1.drewN nq).cell? (ad.add (k * 4)) = some (.string za) := r0
                have hW : Below y1.heap.size y1 (y1.drewN nq) := ⟨rfl, rfl, rfl, Nat.le_refl _, fun _ _ => rfl⟩
                obtain ⟨yd, hyd⟩ : ∃ yd, y1.drewN nq = yd := ⟨_, rfl⟩
                rw [hyd] at r0' hW ⊢
                clear hyd r0
                have Dw := btV dw1 hW
                have Bx := btV hbx Dw
                have hrk2 : KRow yd x2.heap.size vk k ((z1.take k).map (·.1)) := HRk.out.below Dw (Nat.le_refl _)
                have hro2 : PRow yd w.heap.size (.slice An (foldP z0 (z1.take (k + 1))).length cn) (foldP z0 (z1.take (k + 1))).length (foldP z0 (z1.take (k + 1))) := (PRow.below HRown.out hW (Nat.le_refl _)).base (by have := Bw.size; simp; omega)
                have hlt1 := World.ownsRow.lt HRown.out
                have hlt2 := World.ownsRow.lt HRk.out
                have hne : (Value.slice An (foldP z0 (z1.take (k + 1))).length cn).ownBlock = none ∨ (Value.slice An (foldP z0 (z1.take (k + 1))).length cn).ownBlock ≠ vk.ownBlock := by
                  cases hq : (Value.slice An (foldP z0 (z1.take (k + 1))).length cn).ownBlock with
                  | none => exact .inl rfl
                  | some g => exact .inr (fun e => by have a1 := (hlt1 g hq).1; have a2 := (hlt2 g e.symm).2; simp at a1; omega)
                have hsx := Bx.size
                have HK2 := Lib.hid hrk2
                have HO2 := Lib.hid hro2
                have HNe := Lib.hid hne
                have HL2 := Lib.hid hlt2
                clear hrk2 hro2 hne hlt1 hlt2
                go_wp2_with (at_builtin; refine wpList_append_lies _ rfl _ _ 23 rfl x2.heap.size 9 i1 (.string ⟨#[]⟩) 1 16 Tryd.underlying23 hi1 hs0' hs1' hs2' rfl (by decide) _ _ _ rfl (World.ownsRow.alloc HK2.out _) ⟨yd.heap.size, 0, none⟩ 1 1 [.string za] rfl rfl ?a4 ?b4 (by decide) ?c4 ?d4 ?e4 (yd.heap.size + 1) (by simp) ?_)
                try (case a4 => exact (World.ownsRow_lit (base := yd.heap.size) (e := 9) (size := 1) yd #[.string za] 1 (Nat.le_refl _) (by decide) rfl).cells rfl)
                try (case b4 => intro u' hu'; obtain rfl := List.mem_singleton.1 hu'; rfl)
                try (case c4 => unfold maxLen; omega)
                try (case d4 => omega)
                try (case e4 => simp; omega)
                intro g4 cap4 w4 hown4 hgrow4 hwhere hlt4
                go_wp2_with fail
                go_roundw
                case rel =>
                  refine ⟨k + 1, _, _, false, rfl, rfl, rfl, by go_num, by omega, PRow.kept (PRow.alloc' HO2.out _) hgrow4 HNe.out, ?_, (fun h => by cases h), (Bx.alloc hsx _).grown hgrow4 (by simp; omega) (fun k' hk' => (HL2.out k' hk').1)⟩
                  unfold KRow
                  rw [HTk.out]
                  simpa [List.map_take] using hown4
                case measure => simp [intOf]; omega
              | true =>
                have hlk : (z1.take k).length = k := by rw [List.length_take]; omega
                have cF := refFind_any (some ad) c1 (z1.take k) za y1.drew (((HR1.out.below (Nat.le_refl _) Bw).below (Nat.le_refl _) dw1).take k) (by omega) (by omega)
                rw [hlk] at cF
                obtain ⟨r, hr⟩ : ∃ r, findP za 0 (z1.take k) = r := ⟨_, rfl⟩
                rw [hr] at cF
                have CF := Lib.hid cF
                have HRr := Lib.hid hr
                clear cF hr
                go_wp2_with fail
                go_region_held3 (fun w' => w'.cell? (ad.add (k * 4)) = some (.string za) ∧ Below y1.heap.size y1 w') (first | exact ⟨r0, (Below.refl _ y1).drew⟩ | exact ⟨r0, Below.refl _ y1⟩ | exact ⟨by assumption, by assumption⟩)
                  ((first
                    | (go_at_call 20; refine CF.out.mono ?_; rintro e xZ ⟨rfl, rfl⟩)))
                have r0' : (y1.drew).cell? (ad.add (k * 4)) = some (.string za) := r0
                have hW : Below y1.heap.size y1 (y1.drew) := ⟨rfl, rfl, rfl, Nat.le_refl _, fun _ _ => rfl⟩
                obtain ⟨yd, hyd⟩ : ∃ yd, y1.drew = yd := ⟨_, rfl⟩
                rw [hyd] at r0' hW ⊢
                clear hyd r0
                have Dw := btV dw1 hW
                have Bx := btV hbx Dw
                have hrk2 : KRow yd x2.heap.size vk k ((z1.take k).map (·.1)) := HRk.out.below Dw (Nat.le_refl _)
                have hro2 : PRow yd w.heap.size (.slice An (foldP z0 (z1.take (k + 1))).length cn) (foldP z0 (z1.take (k + 1))).length (foldP z0 (z1.take (k + 1))) := (PRow.below HRown.out hW (Nat.le_refl _)).base (by have := Bw.size; simp; omega)
                have hlt1 := World.ownsRow.lt HRown.out
                have hlt2 := World.ownsRow.lt HRk.out
                have hne : (Value.slice An (foldP z0 (z1.take (k + 1))).length cn).ownBlock = none ∨ (Value.slice An (foldP z0 (z1.take (k + 1))).length cn).ownBlock ≠ vk.ownBlock := by
                  cases hq : (Value.slice An (foldP z0 (z1.take (k + 1))).length cn).ownBlock with
                  | none => exact .inl rfl
                  | some g => exact .inr (fun e => by have a1 := (hlt1 g hq).1; have a2 := (hlt2 g e.symm).2; simp at a1; omega)
                have hsx := Bx.size
                have HK2 := Lib.hid hrk2
                have HO2 := Lib.hid hro2
                have HNe := Lib.hid hne
                have HL2 := Lib.hid hlt2
                clear hrk2 hro2 hne hlt1 hlt2
                go_wp2_with (at_builtin; refine wpList_append_lies _ rfl _ _ 23 rfl x2.heap.size 9 i1 (.string ⟨#[]⟩) 1 16 Tryd.underlying23 hi1 hs0' hs1' hs2' rfl (by decide) _ _ _ rfl (World.ownsRow.alloc HK2.out _) ⟨yd.heap.size, 0, none⟩ 1 1 [.string za] rfl rfl ?a4 ?b4 (by decide) ?c4 ?d4 ?e4 (yd.heap.size + 1) (by simp) ?_)
                try (case a4 => exact (World.ownsRow_lit (base := yd.heap.size) (e := 9) (size := 1) yd #[.string za] 1 (Nat.le_refl _) (by decide) rfl).cells rfl)
                try (case b4 => intro u' hu'; obtain rfl := List.mem_singleton.1 hu'; rfl)
                try (case c4 => unfold maxLen; omega)
                try (case d4 => omega)
                try (case e4 => simp; omega)
                intro g4 cap4 w4 hown4 hgrow4 hwhere hlt4
                go_wp2_with fail
                go_roundw
                case rel =>
                  refine ⟨k + 1, _, _, _, rfl, rfl, rfl, by go_num, by omega, PRow.kept (PRow.alloc' HO2.out _) hgrow4 HNe.out, ?_, (fun h => by rw [HTk.out]; exact apart_snoc (HBa.out (by trivial)) (by rw [HRr.out]; simpa using h)), (Bx.alloc hsx _).grown hgrow4 (by simp; omega) (fun k' hk' => (HL2.out k' hk').1)⟩
                  unfold KRow
                  rw [HTk.out]
                  simpa [List.map_take] using hown4
                case measure => simp [intOf]; omega
            · obtain rfl : k = z1.length := by omega
              have hxf := setP_fold HFx.out
              rw [List.take_of_length_le (Nat.le_refl _), ← hxf.1] at hro hrdo hco
              rw [List.take_of_length_le (Nat.le_refl _), ← hxf.1]
              rw [List.take_of_length_le (Nat.le_refl _)] at hrk hba
              obtain ⟨n1, hn1⟩ : ∃ n1, z1.length = n1 + 1 := ⟨z1.length - 1, by omega⟩
              have hdrop := setP_drop HFx.out
              have hlast := getP_last HFx.out n1 hn1
              have hbig := setP_big HFx.out HS0.out HS1.out
              obtain ⟨Ak, ck, rfl, hck, hrdk⟩ := hrk.rd
              obtain ⟨ss, hss⟩ : ∃ ss, z1.map (·.1) = ss := ⟨_, rfl⟩
              rw [hss] at hdrop hrdk hck
              have hsl : ss.length = z1.length := by rw [← hss, List.length_map]
              rw [show (z1.map (·.1)).length = ss.length from by rw [hss]]
              have hna : n1 < z1.length := by omega
              have hnb : z1.length ≤ n1 + 1 := by omega
              have hsl2 : ss.length ≤ 40 := by omega
              have HN1 := Lib.hid hn1
              have HSl := Lib.hid hsl
              clear hn1 hsl
              have HDrop := Lib.hid hdrop
              have HLast := Lib.hid hlast
              have HBig := Lib.hid hbig
              have HRdk := Lib.hid hrdk
              have HBa := Lib.hid hba
              have HR7w := Lib.hid (HR7.out.below (Nat.le_refl _) hbx)
              have s1 := refSame_any Ao A7 co c7 x x wr hrdo HR7w.out hco hc7 (by omega) (by omega)
              rw [decide_eq_true (rfl : x = x)] at s1
              have S1 := Lib.hid s1
              clear s1 hro hrk hrdo hdrop hlast hbig hrdk hba hss hxf
              go_wp2_with fail
              refine S1.out.mono ?_
              rintro e y1 ⟨rfl, d1⟩
              have B5 := btV Bw d1
              have dr1 := propsDrop_any A7 Ak c7 ck x ss y1 (HR7w.out.below (Nat.le_refl _) d1) hA7 (HRdk.out.below (Nat.le_refl _) d1) hc7 (by omega) (by omega) HBig.out
              have DR1 := Lib.hid dr1
              clear dr1
              go_wp2_with fail
              refine DR1.out.mono ?_
              rintro e y2 ⟨vd1, rfl, rowd1, d2⟩
              have d12 := btV d1 d2
              have B6 := btV B5 d2
              obtain ⟨Ad1, cd1, rfl, hcd1, _, hrdd1⟩ := rowd1.rd
              have HRd1 := Lib.hid hrdd1
              have dr2 := propsDrop_any a0 Ak c0 ck z0 ss y2 (HR0.out.below (Nat.le_refl _) B6) hn0 (HRdk.out.below (Nat.le_refl _) d12) hlc0 (by omega) (by omega) HB0.out
              have DR2 := Lib.hid dr2
              clear dr2 rowd1 hrdd1
              go_wp2_with fail
              refine DR2.out.mono ?_
              rintro e y3 ⟨vd2, rfl, rowd2, d3⟩
              have d13 := btV d12 d3
              have B7 := btV B6 d3
              obtain ⟨Ad2, cd2, rfl, hcd2, _, hrdd2⟩ := rowd2.rd
              have hl1d : (dropP x ss).length ≤ 1000000 := Nat.le_trans (List.length_filter_le _ _) (by omega)
              have hl2d : (dropP z0 ss).length ≤ 1000000 := Nat.le_trans (List.length_filter_le _ _) (by omega)
              have s2 := refSame_any Ad1 Ad2 cd1 cd2 (dropP x ss) (dropP z0 ss) y3 (HRd1.out.below (Nat.le_refl _) d3) hrdd2 hcd1 hcd2 hl1d hl2d
              rw [decide_eq_true HDrop.out] at s2
              have S2 := Lib.hid s2
              clear s2 rowd2 hrdd2
              go_wp2_with fail
              refine S2.out.mono ?_
              rintro e y4 ⟨rfl, d4⟩
              have d14 := btV d13 d4
              have B8 := btV B7 d4
              obtain ⟨ad, rfl, hblk, p0, p1, p2, p3⟩ := (HR1.out.below (Nat.le_refl _) B8).at4 (k := n1) (by omega)
              obtain ⟨z, hz⟩ : ∃ z, z1.getD n1 Prop4.no = z := ⟨_, rfl⟩
              have hlast2 := HLast.out
              rw [hz] at p0 p1 p2 p3 hlast2
              clear hz
              obtain ⟨za, zk, zn, zs⟩ := z
              dsimp only at p0 p1 p2 p3 hlast2
              have g1 := propsGet_any A7 c7 x za y4 (HR7w.out.below (Nat.le_refl _) d14) (by omega) HBig.out
              rw [hlast2] at g1
              have G1 := Lib.hid g1
              have hsub : IntKind.i64.wrap ((z1.length : Int) - 1) = (n1 : Int) := by rw [IntKind.wrap_i64]; omega
              have hlt1 : (n1 : Int) < (z1.length : Int) := by omega
              clear g1 hlast2
              go_wp2_with fail
              refine G1.out.mono ?_
              rintro e y5 ⟨rfl, d5⟩
              have d6 : Below y4.heap.size y4 (y5.alloc (.cells #[.int .i64 zk, .int .i64 zn, .string zs] 36)) := d5.alloc d5.size _
              have p1' := (World.cell?_of_block (a := { block := (ad.add (n1 * 4)).block, off := (ad.add (n1 * 4)).off + 1 }) (d6.block (ad.add (n1 * 4)).block (by rw [add_block]; exact hblk))).trans p1
              have p2' := (World.cell?_of_block (a := { block := (ad.add (n1 * 4)).block, off := (ad.add (n1 * 4)).off + 2 }) (d6.block (ad.add (n1 * 4)).block (by rw [add_block]; exact hblk))).trans p2
              have p3' := (World.cell?_of_block (a := { block := (ad.add (n1 * 4)).block, off := (ad.add (n1 * 4)).off + 3 }) (d6.block (ad.add (n1 * 4)).block (by rw [add_block]; exact hblk))).trans p3
              obtain ⟨⟨t0, t1, t2⟩, _⟩ := (HoldV.new y5 zk zn zs).at
              have hnv := fun W => neq_val zk zn zs zk zn zs W
              rw [show sameV zk zn zs zk zn zs = true from by rw [sameV_iff]; simp] at hnv
              unfold valV at hnv ⊢
              dsimp only at t0 t1 t2
              have B9 := btV B8 d6
              obtain ⟨K, hKl, hK⟩ := turn_num a2 z1.length (by omega) (by omega)
              go_wp2_with fail
              go_quiet (fail)
              have hys : Below y4.heap.size y4 ((y5.alloc (.cells #[.int .i64 zk, .int .i64 zn, .string zs] 36)).drewN nq) := ⟨d6.os, d6.tape, d6.output, d6.size, d6.block⟩
              obtain ⟨ys, hyse⟩ : ∃ ys, (y5.alloc (.cells #[.int .i64 zk, .int .i64 zn, .string zs] 36)).drewN nq = ys := ⟨_, rfl⟩
              rw [hyse] at hys ⊢
              clear hyse p1' p2' p3' p0 p1 p2 p3 t0 t1 t2 hnv
              have Bs := btV B8 hys
              have HRs := Lib.hid (HR1.out.below (Nat.le_refl _) Bs)
              have HR0s := Lib.hid (HR0.out.below (Nat.le_refl _) Bs)
              have HR7s := Lib.hid (HR7w.out.below (Nat.le_refl _) (btV d14 hys))
              have dd : Below ys.heap.size ys ys.drew := (Below.refl ys.heap.size ys).drew
              have cc := copiedL_any (some (ad.add (K * 4))) (c1 - K) (z1.drop K) ys.drew ((HRs.out.below (Nat.le_refl _) dd).dropP K) (fun e => by cases e) (by rw [List.length_drop]; omega) (by rw [List.length_drop]; omega)
              have hdl : (z1.drop K).length = z1.length - K := List.length_drop
              have htl : (z1.take K).length = K := by rw [List.length_take]; omega
              have hjl : (z1.drop K ++ z1.take K).length = z1.length - K + K := by rw [List.length_append, hdl, htl]
              unfold ListPost at cc
              rw [hdl] at cc
              have CC := Lib.hid cc
              obtain ⟨⟨f2, x2'⟩, hf2⟩ : ∃ p, setP z0 (z1.drop K ++ z1.take K) = p := ⟨_, rfl⟩
              have hx2l := setP_le z0 (z1.drop K ++ z1.take K)
              rw [hf2] at hx2l
              dsimp only at hx2l
              have hbj : ∀ z ∈ z1.drop K ++ z1.take K, z.1.size ≤ 1000000 ∧ z.2.2.2.size ≤ 1000000 := fun z hz => by
                rcases List.mem_append.1 hz with h | h
                · exact HB1.out z (List.mem_of_mem_drop h)
                · exact HB1.out z (List.mem_of_mem_take h)
              have HF2 := Lib.hid hf2
              have HBj := Lib.hid hbj
              have HTl := Lib.hid htl
              have HJl := Lib.hid hjl
              have hk1 : (K : Int) ≤ (z1.length : Int) := by omega
              have hk2 : (K : Int) ≤ (c1 : Int) := by omega
              have hk3 : ¬ (c1 = K) := by omega
              have hk4 : (0 : Int) ≤ (K : Int) := by omega
              clear cc hf2 hbj htl hjl hdl
              go_wp2_with fail
              have hBsz := Bs.size
              go_region_held3 (fun w' => w.heap.size ≤ w'.heap.size) (first | exact Bs.size | omega | assumption)
                ((first
                  | (go_at_call 10; refine CC.out.mono ?_; rintro e yA ⟨vA, rfl, rowA, dA⟩; have dA2 : Below ys.heap.size ys yA := dd.trans dA; have hsA := dA2.size)
                  | (refine step_append_props rfl (.tmp 141) (.tmp 144) rfl ys.heap.size _ (z1.length - K) (z1.drop K) rfl rowA ad K c1 (z1.take K) rfl HTl.out ((HRs.out.below (Nat.le_refl _) dA2).take K) (by omega) hsA ?_; intro vB yB rowB grB; have hsB := (RowKit.Hid.out grB).size)
                  | (go_at_call 11; have rowB1 := RowKit.Hid.out rowB; have gr1 := RowKit.Hid.out grB; have lt1 := World.ownsRow.lt rowA; have dB2 : Below ys.heap.size ys yB := ⟨gr1.os.trans dA2.os, gr1.tape.trans dA2.tape, gr1.output.trans dA2.output, Nat.le_trans hsA hsB, fun k hk => (gr1.block k (by omega) (fun e => by have := (lt1 k e.symm).1; have e2 : ys.drew.heap.size = ys.heap.size := rfl; omega)).trans (dA2.block k hk)⟩; obtain ⟨AB, cB, rfl, hcB, hAB, hrdB⟩ := rowB1.rd; have cS2 := propsSet_any a0 AB c0 cB z0 (z1.drop K ++ z1.take K) yB (HR0s.out.below (Nat.le_refl _) dB2) hn0 hrdB hlc0 hcB (by omega) (by rw [HJl.out]; omega) HB0.out HBj.out (Utf8Tabs_below HT.out (btV Bs dB2)); rw [HF2.out] at cS2; refine cS2.mono ?_; rintro e yC ⟨vC, rfl, rowC, dC⟩; have hsC := dC.size)))
              have BC := btV (btV Bs dB2) dC
              have HR7C := Lib.hid ((HR7s.out.below (Nat.le_refl _) dB2).below (Nat.le_refl _) dC)
              obtain ⟨AC, cC, rfl, hcC, hAC, hrdC⟩ := rowC.rd
              cases b with
              | false =>
                clear hrdC rowC
                go_wp2_with fail
                go_ret
                exact ⟨rfl, BC⟩
              | true =>
                have hap := HBa.out (by trivial)
                have hsp := HFx.out
                rw [← List.take_append_drop K z1] at hsp hap
                have htn := setP_turn hsp hap
                rw [HF2.out] at htn
                injection htn with e1 e2
                subst e1 e2
                have s3 := refSame_any A7 AC c7 cC x2' x2' yC HR7C.out hrdC hc7 hcC (by omega) (by omega)
                rw [decide_eq_true (rfl : x2' = x2')] at s3
                have S3 := Lib.hid s3
                clear s3 hrdC rowC hsp hap
                go_wp2_with fail
                refine S3.out.mono ?_
                rintro e yD ⟨rfl, dD⟩
                go_wp2_with fail
                go_ret
                exact ⟨rfl, btV BC dD⟩
        · have hf1 : (f != 0) = true := by simpa using hf
          go_wp2_with fail
          go_ret
          exact ⟨rfl, B2⟩

set_option maxRecDepth 100000 in
theorem lifted (os : Os) (started : os.Started) (H : Type) (enc : TypeId × Value → H) :
    ReturnsInHanded {} Tryd.checked os 5 .any (fun w args => (Rows.propsOrderSpec.pre enc Tryd.prog Tryd.f5 [] false w args ∧ laidMetH Tryd.prog Rows.propsOrderRow.laid w) ∧ sizedMet enc Tryd.prog Tryd.f5 (OpenSpec.ofChange Rows.propsOrderSpec) false w args) (Rows.propsOrderSpec.post enc Tryd.prog Tryd.f5 false true false false) := by
  refine returnsInHanded_of_change_and (C := Tryd.checked) (X := fun w _ => laidMetH Tryd.prog Rows.propsOrderRow.laid w) (fun _ _ _ hh h => h.of_heap hh) own started (by kernel_rfl) Tryd.func5
    (ChangeSpec.witness_shaped (enc := enc) (C := Tryd.checked) (os := os) (X := fun w _ => laidMetH Tryd.prog Rows.propsOrderRow.laid w) false (World.laidAll Tryd.prog os Rows.propsOrderRow.laid) #[.slice none 0 0, .slice none 0 0, .int .i64 0] 8 (World.laidAll_os _ _ _)
      (World.shaped_of_ZipB (by kernel_rfl) (by kernel_rfl)) (by kernel_rfl) (by kernel_rfl) (by kernel_rfl)
      (by rw [MakeChecks.laidMetH_plain _ _ _ (by kernel_rfl)]; exact laidMet_laidAll _ (by kernel_rfl) (by kernel_rfl))) ?_
  intro W base args ds gs before hval0 hW _ _ hL _
  have hval : ∀ (j : Nat) t v, Tryd.f5.params[j]? = some t → args[j]? = some v → Value.okWide Tryd.prog W .any base t v := hval0
  have hW' := hW
  obtain ⟨p, q, hA0, hV, rfl, hfz, hnd⟩ := hW
  have hA : DataW.TrodAll enc Tryd.prog W 0 (fun _ => true) true Tryd.f5.params.toList args.toList ds p := hA0
  rw [Tryd.params5] at hA hval
  obtain ⟨v0, vs0, d0, ds0, p0, q0, hargs, rfl, rfl, h0, r0⟩ := trodAll_cons hA
  obtain ⟨v1, vs1, d1, ds1, p1, q1, rfl, rfl, rfl, h1, r1⟩ := trodAll_cons r0
  obtain ⟨v2, vs2, d2, ds2, p2, q2, rfl, rfl, rfl, h2, r2⟩ := trodAll_cons r1
  obtain ⟨rfl, rfl, rfl⟩ := trodAll_nil r2
  obtain rfl : args = #[v0, v1, v2] := by cases args; simp_all
  obtain ⟨rfl, rfl⟩ := trodVars_none hV
  obtain ⟨a0, l0, c0, rfl⟩ := okWide_slice Tryd.underlying22 (hval 0 22 v0 rfl rfl)
  have tk0 := h0
  have lt0 : ∀ x ∈ p0, x.block < W.heap.size := by obtain ⟨m, hm⟩ := tk0; exact DataW.trod_lt m _ _ _ hm
  obtain ⟨z0, w0⟩ : ∃ zs, SlcP W a0 l0 c0 zs := by
    obtain ⟨fuel, hf⟩ := h0
    exact open_props (by simpa [Value.cells] using hf)
  obtain ⟨a1, l1, c1, rfl⟩ := okWide_slice Tryd.underlying22 (hval 1 22 v1 rfl rfl)
  have tk1 := h1
  have lt1 : ∀ x ∈ p1, x.block < W.heap.size := by obtain ⟨m, hm⟩ := tk1; exact DataW.trod_lt m _ _ _ hm
  obtain ⟨z1, w1⟩ : ∃ zs, SlcP W a1 l1 c1 zs := by
    obtain ⟨fuel, hf⟩ := h1
    exact open_props (by simpa [Value.cells] using hf)
  obtain ⟨a2, rfl, rfl, rfl, w2⟩ := open_int Tryd.underlying3 (hval 2 3 v2 rfl rfl) h2
  clear hA0 hval0
  rw [MakeChecks.laidMetH_plain _ _ _ (by kernel_rfl)] at hL
  have hT : Tabs W := tabs_of_laid hL
  refine (walk a0 l0 c0 z0 a1 l1 c1 z1 a2 w2 W w0 w1 hT).mono fun e W' ⟨he, bel⟩ => ?_
  subst he
  exact ⟨_, rfl, _, _, _, [], _, [], hW', trodAll_mk1 (shut_bool Tryd.underlying4 _), (trodAll_cons_mk (Below.trod laidOut (by kernel_rfl) (of_decide_eq_true (by kernel_rfl)) tk0 bel lt0) (trodAll_cons_mk (Below.trod laidOut (by kernel_rfl) (of_decide_eq_true (by kernel_rfl)) tk1 bel lt1) (trodAll_cons_mk (shut_int Tryd.underlying3 w2) trodAll_mk0))), rfl, bel.frame _, fun h => by cases h⟩

theorem over : Rows.propsOrderRow.holds Tryd.pinned (OpenSpec.ofChange Rows.propsOrderSpec) :=
  OpenClaim.holds_of_wide 5 Tryd.f5 rfl rfl rfl rfl rfl rfl rfl ⟨rfl, rfl, rfl, rfl, rfl⟩ rfl rfl rfl rfl rfl (by kernel_rfl) Tryd.func5 (by kernel_rfl)
    (of_decide_eq_true (by kernel_rfl)) (by unfold Func.isWrapper; first | (rw [if_pos (by decide +kernel)]; kernel_rfl) | (rw [if_neg (by decide +kernel)]; exact ⟨rfl, rfl⟩))
    (fun os started H enc _ => lifted os started H enc)
theorem proved : Rows.PropsOrderCardSaid :=
  Claim7.holds_tied_plain_at .later [] [.data, .pinned] true _ true
    over (fun _ h => by cases h) (by kernel_rfl) (fun _ h => by cases h) propsOrder_row_tie rfl ⟨rfl, rfl⟩ (by kernel_rfl) rfl
    (fun f fn hf hfn => by
      obtain rfl : f = 5 := Option.some.inj ((show Tryd.prog.funcNamed "cobweb/cobweblaw03.PropsOrder" = some 5 by kernel_rfl).symm.trans hf) |>.symm
      obtain rfl : fn = Tryd.f5 := (Option.some.inj (Tryd.func5.symm.trans hfn)).symm
      exact ⟨by kernel_rfl, fun j t ht => by
        rw [Tryd.params5] at ht
        have hm : t ∈ [22, 22, 3] := by simpa using Array.mem_of_getElem? ht
        have hall : ([22, 22, 3].all fun u => !Tryd.prog.wantsStandIn u) = true := by kernel_rfl
        exact (show Tryd.prog.wantsStandIn t = false by simpa using List.all_eq_true.1 hall t hm)⟩)
    (by kernel_rfl)
end Go.Proofs.YtgacphpkgaobkaaDoor.propsOrder
