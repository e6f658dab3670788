/- Whatever sessions do, each answer, and all that a table tells, is the document's (P6.1 to P6.3). -/
import Derived.Test.YtcklafaoijodbaaOpenE
import Derived.Test.YtcklafaoijodbaaEpIs
import Derived.Test.YtcklafaoijodbaaEpPair
import Derived.Test.YtcklafaoijodbaaPass
namespace Go.Proofs.Ytcklafaoijodbaa.epochActs
open Go.ChangeShapes Go.WideShapes Go.ChangeAt Go.RowKit
open Go.ChangeMaps (open_string shut_string)
set_option linter.unusedVariables false

set_option maxHeartbeats 40000000 in
set_option maxRecDepth 100000 in
theorem walk (a0 : Int) (a1 : Int) (a2 : Option Addr) (l2 c2 : Nat) (z2 : List H2) (w0 : (Lit.int .i64 a0).wf = true) (w1 : (Lit.int .i64 a1).wf = true) (w : World) (w2 : SlcQ w a2 l2 c2 z2) :
    Calls Try.prog 3 #[.int .i64 a0, .int .i64 a1, .slice a2 l2 c2] w fun e w' => e = .returned (.bool true) ∧ Below w.heap.size w w' := by
  have he0 := wf_i64 w0
  have he1 := wf_i64 w1
  obtain ⟨rfl, hlc, hrd, hus⟩ := w2
  have HR := Lib.hid hrd
  have HU := Lib.hid hus
  obtain ⟨C⟩ := epSpec_is
  clear w0 w1 hrd hus
  go_enter Try.func3, Try.ntmps3
  go_wp2_with fail
  refine (awake_any C _).mono ?_
  rintro e x1 ⟨rfl, b1⟩
  by_cases hbig : 200 < z2.length
  · have hbig2 : (200 : Int) < (z2.length : Int) := by omega
    go_wp2_with fail
    refine (awake_any C _).mono ?_
    rintro e x2 ⟨rfl, b2⟩
    go_wp2_with fail
    go_ret
    exact ⟨rfl, b1.trans (b2.mono b1.size)⟩
  · have hbig2 : ¬ ((200 : Int) < (z2.length : Int)) := by omega
    clear hbig
    by_cases hbad : a0 < 1 ∨ 64 < a0 ∨ a1 < 0 ∨ 2147483647 < a1
    · have n1 := Lib.hid (C.newBad a0 a1 x1 he0 he1 hbad)
      have hsp : a0 < 1 ∨ (¬ a0 < 1 ∧ 64 < a0) ∨ (¬ a0 < 1 ∧ ¬ 64 < a0 ∧ a1 < 0) ∨ (¬ a0 < 1 ∧ ¬ 64 < a0 ∧ ¬ a1 < 0 ∧ 2147483647 < a1) := by omega
      clear hbad
      rcases hsp with h | ⟨h, h2⟩ | ⟨h, h2, h3⟩ | ⟨h, h2, h3, h4⟩
      all_goals
        go_wp2_with fail
        refine n1.out.mono ?_
        rintro e x2 ⟨rfl, b2⟩
        go_wp2_with fail
        go_ret
        exact ⟨rfl, b1.trans (b2.mono b1.size)⟩
    · have h1 : ¬ a0 < 1 := by omega
      have h2 : ¬ 64 < a0 := by omega
      have h3 : ¬ a1 < 0 := by omega
      have h4 : ¬ 2147483647 < a1 := by omega
      obtain ⟨n, rfl⟩ : ∃ n : Nat, a0 = (n : Int) := ⟨a0.toNat, by omega⟩
      have HN1 := Lib.hid (C.new_ n a1 x1 (by omega) (by omega) (by omega) (by omega))
      have HG0 := Lib.hid (GoodT.start (n := n) (f := a1) (by omega) (by omega) (by omega))
      clear hbad
      go_wp2_with fail
      refine HN1.out.mono ?_
      rintro e x2 ⟨N1, S1, rfl, a1', b2⟩
      have B2 := b1.trans (b2.mono b1.size)
      have HN2 := Lib.hid (refNew_any n a1 x2 (by omega))
      clear HN1
      go_wp2_with fail
      refine HN2.out.mono ?_
      rintro e x3 ⟨vI, rfl, r3, b3⟩
      have M3 : PairE C w x1.heap.size N1 x3 x2.heap.size x2.heap.size vI a1 (List.replicate n (-1)) a1 (List.replicate n (-1)) S1 :=
        ⟨C.below a1' b3, r3, fun k hk hf => by have := (C.foot a1' k hk).2; have := (r3.foot_lt k hf).1; omega, fun k hk => hk.elim (fun h => Nat.le_trans b1.size (C.foot a1' k h).1) (fun h => Nat.le_trans B2.size (r3.foot_lt k h).1), B2.trans (b3.mono B2.size)⟩
      have HM3 := Lib.hid M3
      clear M3 a1' r3 b2 b3 B2 HN2 hbig2 h1 h2 h3 h4
      go_wp2_with fail
      go_loopw [10] (fun i wr => ∃ (k : Nat) (gl : Int) (ins : List Int) (S : Nat → Prop), i = .int .i64 (k : Nat) ∧ k ≤ z2.length ∧ PairE C w x1.heap.size N1 wr x2.heap.size x2.heap.size vI gl ins gl ins S ∧ GoodT gl ins) (fun i _ => z2.length - (intOf i).toNat)
      case atStart => exact ⟨0, a1, _, S1, rfl, Nat.zero_le _, HM3.out, HG0.out⟩
      case round =>
        clear HM3 HG0
        obtain ⟨k, gl, ins, S, rfl, hk, hM, hG⟩ := hrel
        have HM := Lib.hid hM
        have HG := Lib.hid hG
        have hbw := hM.bel
        have hfew := hG.few
        have hlo := hG.lo
        have hhi := hG.hi
        clear hM hG
        by_cases hlt : k < z2.length
        · have hlt2 : (k : Int) < (z2.length : Int) := by omega
          obtain ⟨ad, rfl, hblk, c0, c1⟩ := (HR.out.below (Nat.le_refl _) hbw).at2 hlt
          have hu := HU.out _ (mem_getDH hlt)
          obtain ⟨z, hz⟩ : ∃ z, z2.getD k H2.no = z := ⟨_, rfl⟩
          rw [hz] at c0 c1 hu
          obtain ⟨kd, s⟩ := z
          dsimp only at c0 c1 hu
          have HS := Lib.hid hu.2
          clear hz hblk hu
          go_upto_block 2 with fail
          go_cut [12, 13, 14, 15] (fun s12 s13 s14 s15 wx => ∃ (x y gl : Int) (ins : List Int) (S : Nat → Prop), s12 = .int .i64 x ∧ s13 = .int .i64 y ∧ s14 = .int .i64 x ∧ s15 = .int .i64 y ∧ PairE C w x1.heap.size N1 wx x2.heap.size x2.heap.size vI gl ins gl ins S ∧ GoodT gl ins)
          case first =>
            clear c0 c1
            by_cases k0 : kd = 0
            · subst k0
              obtain ⟨⟨x, y, l'⟩, hE⟩ : ∃ r, enterR gl ins s = r := ⟨_, rfl⟩
              have HN := C.enter_ s HM.out.a HG.out HS.out
              have HR2 := fun (W : World) (hr : RefT W x2.heap.size x2.heap.size vI gl ins) => refEnter_any s W _ _ _ _ _ hr (by omega) HS.out
              have hg2 := HG.out.enter s
              rw [hE] at HN hg2
              simp only [hE] at HR2
              dsimp only at HN HR2 hg2
              have HN := Lib.hid HN
              have HR2 := Lib.hid HR2
              have HG2 := Lib.hid hg2
              clear hE hg2
              go_wp2_with fail
              refine HN.out.mono ?_
              rintro e y1 ⟨S', rfl, hA1, m1⟩
              have M2 := Lib.hid (HM.out.moveA hA1 m1)
              have HR3 := Lib.hid (HR2.out y1 M2.out.r)
              clear hA1 m1
              go_wp2_with fail
              refine HR3.out.mono ?_
              rintro e y2 ⟨rfl, rR, on⟩
              have M3 := Lib.hid (M2.out.moveR rR on)
              clear rR on
              go_wp2_with fail
              go_meet
              case rel => exact ⟨x, y, gl, l', S', rfl, rfl, rfl, rfl, M3.out, HG2.out⟩
            · by_cases k1 : kd = 1
              · subst k1
                obtain ⟨⟨x, y, l'⟩, hE⟩ : ∃ r, leaveR gl ins s false = r := ⟨_, rfl⟩
                have HN := C.leave_ s HM.out.a HG.out HS.out
                have HR2 := fun (W : World) (hr : RefT W x2.heap.size x2.heap.size vI gl ins) => refLeave_any s false W _ _ _ _ _ hr (by omega) HS.out
                have hg2 := HG.out.leave s false
                have hx0 := leaveR_fst gl ins s
                rw [hE] at hx0
                dsimp only at hx0
                subst hx0
                rw [hE] at HN hg2
                simp only [hE] at HR2
                dsimp only at HN HR2 hg2
                have HN := Lib.hid HN
                have HR2 := Lib.hid HR2
                have HG2 := Lib.hid hg2
                clear hE hg2
                go_wp2_with fail
                refine HN.out.mono ?_
                rintro e y1 ⟨S', rfl, hA1, m1⟩
                have M2 := Lib.hid (HM.out.moveA hA1 m1)
                have HR3 := Lib.hid (HR2.out y1 M2.out.r)
                clear hA1 m1
                go_wp2_with fail
                refine HR3.out.mono ?_
                rintro e y2 ⟨rfl, rR, on⟩
                have M3 := Lib.hid (M2.out.moveR rR on)
                clear rR on
                go_wp2_with fail
                go_meet
                case rel => exact ⟨0, y, gl, l', S', rfl, rfl, rfl, rfl, M3.out, HG2.out⟩
              · by_cases k2 : kd = 2
                · subst k2
                  obtain ⟨⟨x, y, l'⟩, hE⟩ : ∃ r, leaveR gl ins s true = r := ⟨_, rfl⟩
                  have HN := C.refresh_ s HM.out.a HG.out HS.out
                  have HR2 := fun (W : World) (hr : RefT W x2.heap.size x2.heap.size vI gl ins) => refLeave_any s true W _ _ _ _ _ hr (by omega) HS.out
                  have hg2 := HG.out.leave s true
                  rw [hE] at HN hg2
                  simp only [hE] at HR2
                  dsimp only at HN HR2 hg2
                  have HN := Lib.hid HN
                  have HR2 := Lib.hid HR2
                  have HG2 := Lib.hid hg2
                  clear hE hg2
                  go_wp2_with fail
                  refine HN.out.mono ?_
                  rintro e y1 ⟨S', rfl, hA1, m1⟩
                  have M2 := Lib.hid (HM.out.moveA hA1 m1)
                  have HR3 := Lib.hid (HR2.out y1 M2.out.r)
                  clear hA1 m1
                  go_wp2_with fail
                  refine HR3.out.mono ?_
                  rintro e y2 ⟨rfl, rR, on⟩
                  have M3 := Lib.hid (M2.out.moveR rR on)
                  clear rR on
                  go_wp2_with fail
                  go_meet
                  case rel => exact ⟨x, y, gl, l', S', rfl, rfl, rfl, rfl, M3.out, HG2.out⟩
                · by_cases k3 : kd = 3
                  · subst k3
                    obtain ⟨⟨x, y, l'⟩, hE⟩ : ∃ r, advR gl ins = r := ⟨_, rfl⟩
                    have HN := C.advance_ HM.out.a HG.out
                    have HR2 := fun (W : World) (hr : RefT W x2.heap.size x2.heap.size vI gl ins) => refAdvance_any W _ _ _ _ _ hr (by omega) hlo hhi
                    have hg2 := HG.out.adv
                    rw [hE] at HN hg2
                    simp only [hE] at HR2
                    dsimp only at HN HR2 hg2
                    have HN := Lib.hid HN
                    have HR2 := Lib.hid HR2
                    have HG2 := Lib.hid hg2
                    clear hE hg2
                    go_wp2_with fail
                    refine HN.out.mono ?_
                    rintro e y1 ⟨S', rfl, hA1, m1⟩
                    have M2 := Lib.hid (HM.out.moveA hA1 m1)
                    have HR3 := Lib.hid (HR2.out y1 M2.out.r)
                    clear hA1 m1
                    go_wp2_with fail
                    refine HR3.out.mono ?_
                    rintro e y2 ⟨rfl, rR, on⟩
                    have M3 := Lib.hid (M2.out.moveR rR on)
                    clear rR on
                    go_wp2_with fail
                    go_meet
                    case rel => exact ⟨x, y, l', ins, S', rfl, rfl, rfl, rfl, M3.out, HG2.out⟩
                  · go_wp2_with fail
                    go_meet
                    case rel => exact ⟨0, 0, gl, ins, S, rfl, rfl, rfl, rfl, HM.out, HG.out⟩
          case rest =>
            clear c0 c1
            obtain ⟨x, y, gl, ins, S, rfl, rfl, rfl, rfl, hM, hG⟩ := hcut
            have HM2 := Lib.hid hM
            have HG2 := Lib.hid hG
            have HT := Lib.hid (told_any C wc _ _ _ _ _ _ _ _ hM.a hM.r hG)
            clear hM hG
            go_wp2_with fail
            refine HT.out.mono ?_
            rintro e y9 ⟨rfl, b9⟩
            go_wp2_with fail
            go_roundw
            case rel => exact ⟨k + 1, gl, ins, S, by go_num, by omega, HM2.out.below b9, HG2.out⟩
            case measure => simp [intOf]; omega
        · obtain rfl : k = z2.length := by omega
          go_wp2_with fail
          go_ret
          exact ⟨rfl, hbw⟩

set_option maxRecDepth 100000 in
theorem lifted (os : Os) (started : os.Started) (H : Type) (enc : TypeId × Value → H) :
    ReturnsInHanded {} Try.checked os 3 .any (Rows.epochActsSpec.pre6 enc Try.prog Try.f3 Rows.epochActsRow.domain false) (Rows.epochActsSpec.post enc Try.prog Try.f3 false true false false) := by
  refine returnsInHanded_of_change (C := Try.checked) own started (by kernel_rfl) Try.func3
    (ChangeSpec.witness6 (enc := enc) (C := Try.checked) false ⟨#[], #[.int .i64 0, .int .i64 0, .slice none 0 0], []⟩ 8 (by kernel_rfl) (by kernel_rfl) (by kernel_rfl) (by kernel_rfl)) ?_
  intro W base args ds gs before hval0 hW hcnd _
  have hval : ∀ (j : Nat) t v, Try.f3.params[j]? = some t → args[j]? = some v → Value.okWide Try.prog W .any base t v := hval0
  have hW' := hW
  obtain ⟨p, q, hA0, hV, rfl, hfz, hnd⟩ := hW
  have hA : DataW.TrodAll enc Try.prog W 0 (fun _ => true) true Try.f3.params.toList args.toList ds p := hA0
  rw [Try.params3] at hA hval
  obtain ⟨v0, vs0, d0, ds0, p0, q0, hargs, rfl, rfl, h0, r0⟩ := trodAll_cons hA
  obtain ⟨v1, vs1, d1, ds1, p1, q1, rfl, rfl, rfl, h1, r1⟩ := trodAll_cons r0
  obtain ⟨v2, vs2, d2, ds2, p2, q2, rfl, rfl, rfl, h2, r2⟩ := trodAll_cons r1
  obtain ⟨rfl, rfl, rfl⟩ := trodAll_nil r2
  obtain rfl : args = #[v0, v1, v2] := by cases args; simp_all
  obtain ⟨rfl, rfl⟩ := trodVars_none hV
  obtain ⟨a0, rfl, rfl, rfl, w0⟩ := open_int Try.underlying3 (hval 0 3 v0 rfl rfl) h0
  obtain ⟨a1, rfl, rfl, rfl, w1⟩ := open_int Try.underlying3 (hval 1 3 v1 rfl rfl) h1
  obtain ⟨a2, l2, c2, rfl⟩ := okWide_slice Try.underlying22 (hval 2 22 v2 rfl rfl)
  have tk2 := h2
  have lt2 : ∀ x ∈ p2, x.block < W.heap.size := by obtain ⟨m, hm⟩ := tk2; exact DataW.trod_lt m _ _ _ hm
  obtain ⟨z2, w2⟩ : ∃ zs, SlcQ W a2 l2 c2 zs := by
    obtain ⟨fuel, hf⟩ := h2
    exact open_acts6 (by simpa [Value.cells] using hf)
  clear hA0 hval0
  refine (walk a0 a1 a2 l2 c2 z2 w0 w1 W w2).mono fun e W' ⟨he, bel⟩ => ?_
  subst he
  exact ⟨_, rfl, _, _, _, [], _, [], hW', trodAll_mk1 (shut_bool Try.underlying4 _), (trodAll_cons_mk (shut_int Try.underlying3 w0) (trodAll_cons_mk (shut_int Try.underlying3 w1) (trodAll_cons_mk (Below.trod laidOut (by kernel_rfl) (of_decide_eq_true (by kernel_rfl)) tk2 bel lt2) trodAll_mk0))), rfl, bel.frame _, fun h => by cases h⟩

theorem over : Rows.epochActsRow.holds Try.pinned (OpenSpec.ofChange Rows.epochActsSpec) :=
  OpenClaim.holds_of_wide 3 Try.f3 rfl rfl rfl rfl rfl rfl rfl ⟨rfl, rfl, rfl, rfl, rfl⟩ rfl rfl rfl rfl rfl (by kernel_rfl) Try.func3 (by kernel_rfl)
    (of_decide_eq_true (by kernel_rfl)) (by unfold Func.isWrapper; first | (rw [if_pos (by decide +kernel)]; kernel_rfl) | (rw [if_neg (by decide +kernel)]; exact ⟨rfl, rfl⟩))
    (fun os started H enc _ => lifted os started H enc)
theorem proved : Rows.EpochActsSaid := over
end Go.Proofs.Ytcklafaoijodbaa.epochActs
