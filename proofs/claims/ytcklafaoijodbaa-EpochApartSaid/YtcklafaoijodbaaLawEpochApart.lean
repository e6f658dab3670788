/- Sessions don't touch one another's epochs (P6.1). -/
import Derived.Test.YtcklafaoijodbaaOpenE
import Derived.Test.YtcklafaoijodbaaEpIs
import Derived.Test.YtcklafaoijodbaaEpArr
import Derived.Test.YtcklafaoijodbaaPass
namespace Go.Proofs.Ytcklafaoijodbaa.epochApart
open Go.ChangeShapes Go.WideShapes Go.ChangeAt Go.RowKit
open Go.ChangeMaps (open_string shut_string)
set_option linter.unusedVariables false

set_option maxHeartbeats 40000000 in
set_option maxRecDepth 100000 in
theorem walk (a0 : Option Addr) (l0 c0 : Nat) (z0 : List H2) (a1 : Int) (w1 : (Lit.int .i64 a1).wf = true) (w : World) (w0 : SlcQ w a0 l0 c0 z0) :
    Calls Try.prog 5 #[.slice a0 l0 c0, .int .i64 a1] w fun e w' => e = .returned (.bool true) ∧ Below w.heap.size w w' := by
  have he0 := wf_i64 w1
  obtain ⟨rfl, hlc, hrd, hus⟩ := w0
  have HR := Lib.hid hrd
  have HU := Lib.hid hus
  obtain ⟨C⟩ := epSpec_is
  clear w1 hrd hus
  go_enter Try.func5, Try.ntmps5
  go_wp2_with fail
  refine (awake_any C _).mono ?_
  rintro e x1 ⟨rfl, b1⟩
  by_cases hbig : 100 < z0.length
  · have hbig2 : (100 : Int) < (z0.length : Int) := by omega
    go_wp2_with fail
    refine (awake_any C _).mono ?_
    rintro e x2 ⟨rfl, b2⟩
    go_wp2_with fail
    go_ret
    exact ⟨rfl, b1.trans (b2.mono b1.size)⟩
  · have hbig2 : ¬ ((100 : Int) < (z0.length : Int)) := by omega
    clear hbig
    have HN : Calls Try.prog 7 #[.int .i64 5, .int .i64 3] x1 _ := C.new_ 5 3 x1 (by decide) (by decide) (by decide) (by decide)
    have HN1 := Lib.hid HN
    clear HN
    go_wp2_with fail
    refine HN1.out.mono ?_
    rintro e x2 ⟨N, S0, rfl, ha, b2⟩
    have HM0 : EpM C w x1.heap.size N x2 3 (List.replicate 5 (-1)) S0 := ⟨ha, GoodT.start (by decide) (by decide) (by decide), fun k hk => Nat.le_trans b1.size (C.foot ha k hk).1, b1.trans (b2.mono b1.size)⟩
    have HM0 := Lib.hid HM0
    clear ha b2 HN1 hbig2
    go_wp2_with fail
    go_loopw [7] (fun i wr => ∃ (k : Nat) (gl : Int) (ins : List Int) (S : Nat → Prop), i = .int .i64 (k : Nat) ∧ k ≤ z0.length ∧ EpM C w x1.heap.size N wr gl ins S ∧ 3 ≤ gl) (fun i _ => z0.length - (intOf i).toNat)
    case atStart => exact ⟨0, 3, _, S0, rfl, Nat.zero_le _, HM0.out, Int.le_refl _⟩
    case round =>
      clear HM0
      obtain ⟨k, gl, ins, S, rfl, hk, hM, h3⟩ := hrel
      have HM := Lib.hid hM
      have hbw := hM.bel
      clear hM
      by_cases hlt : k < z0.length
      · have hlt2 : (k : Int) < (z0.length : Int) := by omega
        have hfoot := fun b hb => (C.foot HM.out.a b hb).2
        have A0 : ArrsM C w x1.heap.size N ((wr.alloc (.cells #[.int .i64 0, .int .i64 0, .int .i64 0, .int .i64 0, .int .i64 0] 44)).alloc (.cells #[.bool false, .bool false, .bool false, .bool false, .bool false] 45)) gl ins S wr.heap.size (wr.heap.size + 1) [0, 0, 0, 0, 0] [false, false, false, false, false] :=
          ⟨(HM.out.below ((Below.refl _ _).alloc (Nat.le_refl _) (.cells #[.int .i64 0, .int .i64 0, .int .i64 0, .int .i64 0, .int .i64 0] 44))).below ((Below.refl _ _).alloc (Nat.le_refl _) (.cells #[.bool false, .bool false, .bool false, .bool false, .bool false] 45)),
            (Below.heap_alloc _ _ _ (by simp)).trans (heap_alloc_new wr _), by rw [show wr.heap.size + 1 = (wr.alloc (.cells #[.int .i64 0, .int .i64 0, .int .i64 0, .int .i64 0, .int .i64 0] 44)).heap.size from by simp]; exact heap_alloc_new _ _,
            fun h => by have := hfoot _ h; omega, fun h => by have := hfoot _ h; omega, by omega, hbw.size, by have := hbw.size; omega⟩
        have HA0 := Lib.hid A0
        clear A0 hfoot
        go_upto_block 2 with fail
        generalize (wr.alloc (.cells #[.int .i64 0, .int .i64 0, .int .i64 0, .int .i64 0, .int .i64 0] 44)).alloc (.cells #[.bool false, .bool false, .bool false, .bool false, .bool false] 45) = W1 at *
        obtain ⟨b8, hb8⟩ : ∃ b, b = wr.heap.size := ⟨_, rfl⟩
        obtain ⟨b9, hb9⟩ : ∃ b, b = wr.heap.size + 1 := ⟨_, rfl⟩
        rw [← hb9, ← hb8] at HA0
        rw [← hb9, ← hb8]
        clear hb8 hb9
        go_wp2_with fail
        go_loopw [10] (fun i wj => ∃ (j : Nat) (was : List Int) (inn : List Bool), j ≤ 5 ∧ i = .int .i64 (j : Nat) ∧ ArrsM C w x1.heap.size N wj gl ins S b8 b9 was inn ∧ Saw ins j was inn) (fun i _ => 5 - (intOf i).toNat)
        case atStart => exact ⟨0, _, _, Nat.zero_le _, rfl, HA0.out, rfl, rfl, fun j hj => absurd hj (Nat.not_lt_zero _)⟩
        case round =>
          clear HA0
          obtain ⟨j, was, inn, hj, rfl, hA, hS⟩ := hrel
          have HA := Lib.hid hA
          have HS := Lib.hid hS
          clear hA hS
          by_cases hj5 : j < 5
          · have hj52 : (j : Int) < 5 := by omega
            have HI := C.in_ (j : Int) HA.out.m.a HA.out.m.good ⟨by omega, by omega⟩
            have HNx := HS.out.next hj5
            obtain ⟨⟨x, b⟩, hx⟩ : ∃ r, inR ins (j : Int) = r := ⟨_, rfl⟩
            rw [hx] at HI HNx
            dsimp only at HI HNx
            have HI := Lib.hid HI
            have HNx := Lib.hid HNx
            clear hx
            go_wp2_with fail
            refine HI.out.mono ?_
            rintro e y1 ⟨rfl, f1⟩
            have A1 := Lib.hid (HA.out.below f1)
            have A2 := Lib.hid (A1.out.set8 j x)
            have A3 := Lib.hid (A2.out.set9 j b)
            obtain ⟨c8, z8⟩ := A1.out.cell8 (k := j) (by rw [HS.out.1]; exact hj5)
            obtain ⟨c9, z9⟩ := A2.out.cell9 (k := j) (by rw [HS.out.2.1]; exact hj5)
            clear f1
            go_wp2_with fail
            go_roundw
            case rel => exact ⟨j + 1, _, _, by omega, by go_num, A3.out, HNx.out⟩
            case measure => simp [intOf]; omega
          · have hS5 : Saw ins 5 was inn := by have h := HS.out; rw [show j = 5 from by omega] at h; exact h
            have HS := Lib.hid hS5
            have hj6 : ¬ (j : Int) < 5 := by omega
            clear hS5 hj5 hj
            obtain ⟨ad, rfl, hblk, c0', c1'⟩ := (HR.out.below (Nat.le_refl _) HA.out.m.bel).at2 hlt
            have hu := HU.out _ (mem_getDH hlt)
            obtain ⟨z, hz⟩ : ∃ z, z0.getD k H2.no = z := ⟨_, rfl⟩
            rw [hz] at c0' c1' hu
            obtain ⟨kd, s⟩ := z
            dsimp only at c0' c1' hu
            have HSi := Lib.hid hu.2
            clear hz hblk hu
            go_upto_block 4 with fail
            go_cut [11] (fun s11 wx => ∃ (wv gl' : Int) (ins' : List Int) (S' : Nat → Prop), s11 = .int .i64 wv ∧ ArrsM C w x1.heap.size N wx gl' ins' S' b8 b9 was inn ∧ 3 ≤ gl' ∧ ∀ q : Nat, (q : Int) ≠ wv → inR ins' (q : Int) = inR ins (q : Int))
            case first =>
              by_cases k0 : kd = 0
              · subst k0
                have hn := Lib.hid (C.enter_ s HA.out.m.a HA.out.m.good HSi.out)
                go_wp2_with fail
                refine hn.out.mono ?_
                rintro e y1 ⟨S', rfl, ha, m⟩
                have A1 := Lib.hid (HA.out.move ha m (HA.out.m.good.enter s))
                clear ha m
                go_wp2_with fail
                go_meet
                case rel => exact ⟨s, gl, _, S', rfl, A1.out, h3, fun q hq => inR_enter hq⟩
              · by_cases k1 : kd = 1
                · subst k1
                  have hn := Lib.hid (C.leave_ s HA.out.m.a HA.out.m.good HSi.out)
                  go_wp2_with fail
                  refine hn.out.mono ?_
                  rintro e y1 ⟨S', rfl, ha, m⟩
                  have A1 := Lib.hid (HA.out.move ha m (HA.out.m.good.leave s false))
                  clear ha m
                  go_wp2_with fail
                  go_meet
                  case rel => exact ⟨s, gl, _, S', rfl, A1.out, h3, fun q hq => inR_leave hq⟩
                · by_cases k2 : kd = 2
                  · subst k2
                    have hn := C.refresh_ s HA.out.m.a HA.out.m.good HSi.out
                    have hok := leaveR_ok gl ins s
                    have hgd := HA.out.m.good.leave s true
                    have hin : ∀ q : Nat, (q : Int) ≠ s → inR (leaveR gl ins s true).2.2 (q : Int) = inR ins (q : Int) := fun q hq => inR_leave hq
                    obtain ⟨⟨x, y, l'⟩, hE⟩ : ∃ r, leaveR gl ins s true = r := ⟨_, rfl⟩
                    rw [hE] at hn hok hgd
                    simp only [hE] at hin
                    dsimp only at hn hok hgd hin
                    have HIn := Lib.hid hin
                    have HGd := Lib.hid hgd
                    have hn := Lib.hid hn
                    by_cases hy : y = 0
                    · subst hy
                      obtain rfl := hok rfl
                      clear hok hE hin hgd
                      go_wp2_with fail
                      refine hn.out.mono ?_
                      rintro e y1 ⟨S', rfl, ha, m⟩
                      have A1 := Lib.hid (HA.out.move ha m HGd.out)
                      have hg := Lib.hid (C.global_ A1.out.m.a A1.out.m.good)
                      clear ha m
                      go_wp2_with fail
                      refine hg.out.mono ?_
                      rintro e y2 ⟨rfl, f2⟩
                      go_wp2_with fail
                      go_meet
                      case rel => exact ⟨s, x, l', S', rfl, A1.out.below f2, h3, HIn.out⟩
                    · clear hok hE hin hgd
                      go_wp2_with fail
                      refine hn.out.mono ?_
                      rintro e y1 ⟨S', rfl, ha, m⟩
                      have A1 := Lib.hid (HA.out.move ha m HGd.out)
                      clear ha m
                      go_wp2_with fail
                      go_meet
                      case rel => exact ⟨s, gl, l', S', rfl, A1.out, h3, HIn.out⟩
                  · by_cases k3 : kd = 3
                    · subst k3
                      have hn := Lib.hid (C.advance_ HA.out.m.a HA.out.m.good)
                      have hup := adv_up gl ins
                      go_wp2_with fail
                      refine hn.out.mono ?_
                      rintro e y1 ⟨S', rfl, ha, m⟩
                      have A1 := Lib.hid (HA.out.move ha m HA.out.m.good.adv)
                      clear ha m
                      go_wp2_with fail
                      go_meet
                      case rel => exact ⟨-1, _, ins, S', rfl, A1.out, by omega, fun q hq => rfl⟩
                    · go_wp2_with fail
                      go_meet
                      case rel => exact ⟨-1, gl, ins, S, rfl, HA.out, h3, fun q hq => rfl⟩
            case rest =>
              clear c0' c1'
              obtain ⟨wv, gl', ins', S', rfl, hA2, h3', hin⟩ := hcut
              have HB := Lib.hid hA2
              have HIn := Lib.hid hin
              clear hA2 hin
              go_wp2_with fail
              go_loopw [14] (fun i wj => ∃ q : Nat, q ≤ 5 ∧ i = .int .i64 (q : Nat) ∧ Below wc.heap.size wc wj) (fun i _ => 5 - (intOf i).toNat)
              case atStart => exact ⟨0, Nat.zero_le _, rfl, Below.refl _ _⟩
              case round =>
                obtain ⟨q, hq, rfl, hbj⟩ := hrel
                have HB2 := Lib.hid (HB.out.below hbj)
                by_cases hq5 : q < 5
                · have hq52 : (q : Int) < 5 := by omega
                  have HI := C.in_ (q : Int) HB2.out.m.a HB2.out.m.good ⟨by omega, by omega⟩
                  obtain ⟨e1, e2⟩ := HS.out.2.2 q hq5
                  obtain ⟨⟨x, b⟩, hx⟩ : ∃ r, inR ins' (q : Int) = r := ⟨_, rfl⟩
                  have hsame := HIn.out q
                  rw [hx] at HI hsame
                  dsimp only at HI
                  have HI := Lib.hid HI
                  by_cases hqw : (q : Int) = wv
                  · subst hqw
                    clear hsame hx e1 e2
                    go_wp2_with fail
                    refine HI.out.mono ?_
                    rintro e y1 ⟨rfl, f1⟩
                    go_wp2_with fail
                    go_roundw
                    case rel => exact ⟨q + 1, by omega, by go_num, hbj.trans (f1.mono hbj.size)⟩
                    case measure => simp [intOf]; omega
                  · have hs := hsame hqw
                    rw [← hs] at e1 e2
                    dsimp only at e1 e2
                    have HE1 := Lib.hid e1
                    have HE2 := Lib.hid e2
                    clear hsame hs hx e1 e2
                    go_wp2_with fail
                    refine HI.out.mono ?_
                    rintro e y1 ⟨rfl, f1⟩
                    have HB3 := Lib.hid (HB2.out.below f1)
                    obtain ⟨c8, z8⟩ := HB3.out.cell8 (k := q) (by rw [HS.out.1]; exact hq5)
                    obtain ⟨c9, z9⟩ := HB3.out.cell9 (k := q) (by rw [HS.out.2.1]; exact hq5)
                    rw [HE1.out] at c8
                    rw [HE2.out] at c9
                    clear z8 z9
                    go_wp2_with fail
                    go_roundw
                    case rel => exact ⟨q + 1, by omega, by go_num, hbj.trans (f1.mono hbj.size)⟩
                    case measure => simp [intOf]; omega
                · obtain rfl : q = 5 := by omega
                  go_wp2_with fail
                  go_roundw
                  case rel => exact ⟨k + 1, gl', ins', S', by go_num, by omega, HB2.out.m, h3'⟩
                  case measure => simp [intOf]; omega
      · obtain rfl : k = z0.length := by omega
        have hg := Lib.hid (C.global_ HM.out.a HM.out.good)
        go_wp2_with fail
        refine hg.out.mono ?_
        rintro e y1 ⟨rfl, b9⟩
        go_wp2_with fail
        go_ret
        exact ⟨rfl, hbw.trans (b9.mono hbw.size)⟩

set_option maxRecDepth 100000 in
theorem lifted (os : Os) (started : os.Started) (H : Type) (enc : TypeId × Value → H) :
    ReturnsInHanded {} Try.checked os 5 .any (Rows.epochApartSpec.pre6 enc Try.prog Try.f5 Rows.epochApartRow.domain false) (Rows.epochApartSpec.post enc Try.prog Try.f5 false true false false) := by
  refine returnsInHanded_of_change (C := Try.checked) own started (by kernel_rfl) Try.func5
    (ChangeSpec.witness6 (enc := enc) (C := Try.checked) false ⟨#[], #[.slice none 0 0, .int .i64 0], []⟩ 8 (by kernel_rfl) (by kernel_rfl) (by kernel_rfl) (by kernel_rfl)) ?_
  intro W base args ds gs before hval0 hW hcnd _
  have hval : ∀ (j : Nat) t v, Try.f5.params[j]? = some t → args[j]? = some v → Value.okWide Try.prog W .any base t v := hval0
  have hW' := hW
  obtain ⟨p, q, hA0, hV, rfl, hfz, hnd⟩ := hW
  have hA : DataW.TrodAll enc Try.prog W 0 (fun _ => true) true Try.f5.params.toList args.toList ds p := hA0
  rw [Try.params5] at hA hval
  obtain ⟨v0, vs0, d0, ds0, p0, q0, hargs, rfl, rfl, h0, r0⟩ := trodAll_cons hA
  obtain ⟨v1, vs1, d1, ds1, p1, q1, rfl, rfl, rfl, h1, r1⟩ := trodAll_cons r0
  obtain ⟨rfl, rfl, rfl⟩ := trodAll_nil r1
  obtain rfl : args = #[v0, v1] := by cases args; simp_all
  obtain ⟨rfl, rfl⟩ := trodVars_none hV
  obtain ⟨a0, l0, c0, rfl⟩ := okWide_slice Try.underlying22 (hval 0 22 v0 rfl rfl)
  have tk0 := h0
  have lt0 : ∀ x ∈ p0, x.block < W.heap.size := by obtain ⟨m, hm⟩ := tk0; exact DataW.trod_lt m _ _ _ hm
  obtain ⟨z0, w0⟩ : ∃ zs, SlcQ W a0 l0 c0 zs := by
    obtain ⟨fuel, hf⟩ := h0
    exact open_acts6 (by simpa [Value.cells] using hf)
  obtain ⟨a1, rfl, rfl, rfl, w1⟩ := open_int Try.underlying3 (hval 1 3 v1 rfl rfl) h1
  clear hA0 hval0
  refine (walk a0 l0 c0 z0 a1 w1 W w0).mono fun e W' ⟨he, bel⟩ => ?_
  subst he
  exact ⟨_, rfl, _, _, _, [], _, [], hW', trodAll_mk1 (shut_bool Try.underlying4 _), (trodAll_cons_mk (Below.trod laidOut (by kernel_rfl) (of_decide_eq_true (by kernel_rfl)) tk0 bel lt0) (trodAll_cons_mk (shut_int Try.underlying3 w1) trodAll_mk0)), rfl, bel.frame _, fun h => by cases h⟩

theorem over : Rows.epochApartRow.holds Try.pinned (OpenSpec.ofChange Rows.epochApartSpec) :=
  OpenClaim.holds_of_wide 5 Try.f5 rfl rfl rfl rfl rfl rfl rfl ⟨rfl, rfl, rfl, rfl, rfl⟩ rfl rfl rfl rfl rfl (by kernel_rfl) Try.func5 (by kernel_rfl)
    (of_decide_eq_true (by kernel_rfl)) (by unfold Func.isWrapper; first | (rw [if_pos (by decide +kernel)]; kernel_rfl) | (rw [if_neg (by decide +kernel)]; exact ⟨rfl, rfl⟩))
    (fun os started H enc _ => lifted os started H enc)
theorem proved : Rows.EpochApartSaid := over
end Go.Proofs.Ytcklafaoijodbaa.epochApart
