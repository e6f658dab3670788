/- The next stamp is the document's, above the last one and in the epoch; the greatest of several is (P4.3, P4.4). -/
import Derived.Test.YtphbckddcckgdaaOpenN
import Derived.Test.YtphbckddcckgdaaWordLaws
namespace Go.Proofs.Ytphbckddcckgdaa.wordNexts
open Go.ChangeShapes Go.WideShapes Go.ChangeAt Go.RowKit
open Go.ChangeMaps (open_string shut_string)
set_option linter.unusedVariables false

set_option maxHeartbeats 40000000 in
set_option maxRecDepth 100000 in
theorem walk (a0 : Int) (a1 : Int) (a2 : Option Addr) (l2 c2 : Nat) (z2 : List Int) (w0 : (Lit.int .u64 a0).wf = true) (w1 : (Lit.int .i64 a1).wf = true) (w : World) (w2 : SlcU w a2 l2 c2 z2) :
    Calls Try.prog 5 #[.int .u64 a0, .int .i64 a1, .slice a2 l2 c2] w fun e w' => e = .returned (.bool true) ∧ Below w.heap.size w w' := by
  have hx := wf_u64 w0
  have he := wf_i64 w1
  obtain ⟨rfl, hlc, hrd, hus⟩ := w2
  have HR := Lib.hid hrd
  have HU := Lib.hid hus
  have CN := Lib.hid (fun W => wordNext_any a0 a1 W hx he)
  have RN := Lib.hid (fun W => refNext_any a0 a1 W hx he)
  have nf := fun (h : (nextW a0 a1).2 = 0) => next_facts hx h
  have CS := Lib.hid (fun W => wordStamp_any a0 W hx)
  obtain ⟨⟨nx, nf2⟩, hn⟩ : ∃ p, nextW a0 a1 = p := ⟨_, rfl⟩
  rw [hn] at CN RN nf
  dsimp only at CN RN nf
  have HNf := Lib.hid nf
  generalize hst0 : stampW a0 = st at *
  clear w0 w1 hrd hus nf hn hst0
  go_enter Try.func5, Try.ntmps5
  go_wp2_with fail
  refine (awake_any _).mono ?_
  rintro e x1 ⟨rfl, b1⟩
  by_cases hbig : 100 < z2.length
  · have hbig2 : (100 : Int) < (z2.length : Int) := by omega
    go_wp2_with fail
    refine (awake_any _).mono ?_
    rintro e x2 ⟨rfl, b2⟩
    go_wp2_with fail
    go_ret
    exact ⟨rfl, btW b1 b2⟩
  · have hbig2 : ¬ ((100 : Int) < (z2.length : Int)) := by omega
    have hl2 : z2.length ≤ 100 := by omega
    clear hbig
    go_wp2_with fail
    refine (CN.out _).mono ?_
    rintro e x2 ⟨rfl, b2⟩
    have B2 := btW b1 b2
    go_wp2_with fail
    refine (RN.out _).mono ?_
    rintro e x3 ⟨rfl, b3⟩
    have B3 := btW B2 b3
    have hnn : (nx != nx) = false := by simp
    have hff : (nf2 != nf2) = false := by simp
    clear hbig2
    by_cases hf0 : nf2 = 0
    · subst hf0
      obtain ⟨u0, u1, u2, u3, u4, u5, u6, u7⟩ := HNf.out rfl
      have cP := fun W => wordParts_any nx W u0
      unfold partsV at cP
      rw [u1, u2, u4, u5] at cP
      simp only [if_true] at cP
      unfold tidV at cP
      generalize seqW nx = sq at *
      have CP := Lib.hid cP
      have h1 : ¬ sq < 1 := by omega
      have h2 : decide (nx ≤ st) = false := decide_eq_false (by omega)
      have h3 : (a1 != a1) = false := by simp
      clear cP u0 u1 u2 u3 u4 u5 u7
      go_wp2_with fail
      refine (CP.out _).mono ?_
      rintro e x4 ⟨rfl, b4⟩
      have B4 := btW B3 b4
      have B5 := B4.alloc B4.size (.cells #[.int .i64 a1, .int .i64 sq, .bool false, .bool false] 23)
      obtain ⟨c0, c1, c2', c3⟩ := BoxT.new x4 a1 sq false false
      go_wp2_with fail
      refine (CS.out _).mono ?_
      rintro e x5 ⟨rfl, b5⟩
      have B6 := btW B5 b5
      clear c0 c1 c2' c3 hnn hff
      have CM := Lib.hid (wordMost_any a2 c2 z2 x5 (HR.out.below (Nat.le_refl _) B6) HU.out hlc (by omega))
      have hm0 := most_in HU.out
      have hge : ∀ k, k < z2.length → stampW (z2.getD k 0) ≤ mostW z2 := fun k hk => most_ge (by rw [List.getD_eq_getElem?_getD, List.getElem?_eq_getElem hk]; exact List.getElem_mem hk)
      have hfound : (decide (z2.length = 0) || (z2.take z2.length).any (fun x => stampW x == mostW z2)) = true := by
        rw [List.take_length]
        by_cases hne : z2 = []
        · subst hne; rfl
        · obtain ⟨x, hx, e⟩ := most_mem HU.out hne
          rw [Bool.or_eq_true]
          exact .inr (List.any_eq_true.2 ⟨x, hx, by rw [e]; exact beq_self_eq_true _⟩)
      have hzero : z2.length = 0 → mostW z2 = 0 := fun h => by rw [List.length_eq_zero_iff.1 h]; rfl
      have hstep : ∀ k, k < z2.length → (decide (z2.length = 0) || (z2.take (k + 1)).any (fun x => stampW x == mostW z2)) = ((decide (z2.length = 0) || (z2.take k).any (fun x => stampW x == mostW z2)) || (stampW (z2.getD k 0) == mostW z2)) := fun k hk => by
        rw [List.take_succ_eq_append_getElem hk, List.any_append, ← Bool.or_assoc]
        simp [List.getD_eq_getElem?_getD, List.getElem?_eq_getElem hk]
      have hmr : Hid (mostW z2 = mostW z2) := Lib.hid rfl
      generalize hmm : mostW z2 = m at *
      have HGe := Lib.hid hge
      have HFo := Lib.hid hfound
      have HSt := Lib.hid hstep
      have HZe := Lib.hid hzero
      clear hge hfound hstep hzero hmm hmr
      go_wp2_with fail
      refine (CM.out).mono ?_
      rintro e y1 ⟨rfl, d1⟩
      have D1 := btW B6 d1
      obtain ⟨fl, hfl⟩ : ∃ b, decide (z2.length = 0) = b := ⟨_, rfl⟩
      have hfl0 : fl = true → m = 0 := fun h => HZe.out (of_decide_eq_true (hfl.trans h))
      have hl0 : ((z2.length : Int) == 0) = fl := by
        rw [← hfl, Bool.eq_iff_iff, beq_iff_eq, decide_eq_true_iff]; omega
      rw [hfl] at HFo HSt
      have hfi : (fl && (m == 0)) = fl := by
        cases fl with
        | false => rfl
        | true => rw [hfl0 rfl]; rfl
      have HFl := Lib.hid hfl
      have HFi := Lib.hid hfi
      clear hfl hfl0 hfi
      cases fl with
      | true =>
        have hm00 : m = 0 := HZe.out (of_decide_eq_true HFl.out)
        have hlen : z2.length = 0 := of_decide_eq_true HFl.out
        subst hm00
        go_wp2_with fail
        go_loopw [14, 15] (fun f i wr => i = .int .i64 0 ∧ f = .bool true ∧ Below w.heap.size w wr) (fun _ _ _ => 0)
        case atStart => exact ⟨rfl, rfl, D1⟩
        case round =>
          obtain ⟨rfl, rfl, hbw⟩ := hrel
          have hz : ¬ ((0 : Int) < (z2.length : Int)) := by omega
          go_wp2_with fail
          go_ret
          exact ⟨rfl, hbw⟩
      | false =>
        go_wp2_with fail
        go_loopw [14, 15] (fun f i wr => ∃ (k : Nat) (b : Bool), k ≤ z2.length ∧ i = .int .i64 (k : Nat) ∧ f = .bool b ∧ b = (false || (z2.take k).any (fun x => stampW x == m)) ∧ Below w.heap.size w wr) (fun _ i _ => z2.length - (intOf i).toNat)
        case atStart => exact ⟨0, false, Nat.zero_le _, rfl, rfl, rfl, D1⟩
        case round =>
          obtain ⟨k, b, hk, rfl, rfl, hb, hbw⟩ := hrel
          by_cases hlt : k < z2.length
          · obtain ⟨ad, rfl, hblk, hcell⟩ := (HR.out.below (Nat.le_refl _) hbw) k hlt
            have hux := HU.out k hlt
            have hgk := HGe.out k hlt
            have hst := HSt.out k hlt
            rw [← hb] at hst
            obtain ⟨x, hx⟩ : ∃ x, z2.getD k 0 = x := ⟨_, rfl⟩
            rw [hx] at hcell hux hgk hst
            have SX := Lib.hid (fun W => wordStamp_any x W hux)
            generalize stampW x = sx at *
            have HSt2 := Lib.hid hst
            clear hb hst hux hx
            have hng : ¬ (m < sx) := by omega
            cases b with
            | true =>
              go_wp2_with fail
              refine (SX.out _).mono ?_
              rintro e y2 ⟨rfl, d2⟩
              go_wp2_with fail
              go_roundw
              case rel => exact ⟨k + 1, true, by omega, by go_num, rfl, by rw [HSt2.out]; rfl, btW hbw d2⟩
              case measure => simp [intOf]; omega
            | false =>
              go_wp2_with fail
              refine (SX.out _).mono ?_
              rintro e y2 ⟨rfl, d2⟩
              have hblk2 := hblk
              have hc2 := (World.cell?_of_block (a := ad.add k) (show y2.heap[(ad.add k).block]? = wr.heap[(ad.add k).block]? by rw [add_block]; exact d2.block _ hblk)).trans hcell
              go_wp2_with fail
              refine (SX.out _).mono ?_
              rintro e y3 ⟨rfl, d3⟩
              go_wp2_with fail
              go_roundw
              case rel => exact ⟨k + 1, sx == m, by omega, by go_num, rfl, by rw [HSt2.out]; rfl, btW (btW hbw d2) d3⟩
              case measure => simp [intOf]; omega
          · obtain rfl : k = z2.length := by omega
            have hbt : b = true := hb.trans HFo.out
            subst hbt
            go_wp2_with fail
            go_ret
            exact ⟨rfl, hbw⟩
    · have hf1 : (nf2 == 0) = false := by simpa using hf0
      have CM := Lib.hid (wordMost_any a2 c2 z2 x3 (HR.out.below (Nat.le_refl _) B3) HU.out hlc (by omega))
      have hm0 := most_in HU.out
      have hge : ∀ k, k < z2.length → stampW (z2.getD k 0) ≤ mostW z2 := fun k hk => most_ge (by rw [List.getD_eq_getElem?_getD, List.getElem?_eq_getElem hk]; exact List.getElem_mem hk)
      have hfound : (decide (z2.length = 0) || (z2.take z2.length).any (fun x => stampW x == mostW z2)) = true := by
        rw [List.take_length]
        by_cases hne : z2 = []
        · subst hne; rfl
        · obtain ⟨x, hx, e⟩ := most_mem HU.out hne
          rw [Bool.or_eq_true]
          exact .inr (List.any_eq_true.2 ⟨x, hx, by rw [e]; exact beq_self_eq_true _⟩)
      have hzero : z2.length = 0 → mostW z2 = 0 := fun h => by rw [List.length_eq_zero_iff.1 h]; rfl
      have hstep : ∀ k, k < z2.length → (decide (z2.length = 0) || (z2.take (k + 1)).any (fun x => stampW x == mostW z2)) = ((decide (z2.length = 0) || (z2.take k).any (fun x => stampW x == mostW z2)) || (stampW (z2.getD k 0) == mostW z2)) := fun k hk => by
        rw [List.take_succ_eq_append_getElem hk, List.any_append, ← Bool.or_assoc]
        simp [List.getD_eq_getElem?_getD, List.getElem?_eq_getElem hk]
      have hmr : Hid (mostW z2 = mostW z2) := Lib.hid rfl
      generalize hmm : mostW z2 = m at *
      have HGe := Lib.hid hge
      have HFo := Lib.hid hfound
      have HSt := Lib.hid hstep
      have HZe := Lib.hid hzero
      clear hge hfound hstep hzero hmm hmr
      go_wp2_with fail
      refine (CM.out).mono ?_
      rintro e y1 ⟨rfl, d1⟩
      have D1 := btW B3 d1
      obtain ⟨fl, hfl⟩ : ∃ b, decide (z2.length = 0) = b := ⟨_, rfl⟩
      have hfl0 : fl = true → m = 0 := fun h => HZe.out (of_decide_eq_true (hfl.trans h))
      have hl0 : ((z2.length : Int) == 0) = fl := by
        rw [← hfl, Bool.eq_iff_iff, beq_iff_eq, decide_eq_true_iff]; omega
      rw [hfl] at HFo HSt
      have hfi : (fl && (m == 0)) = fl := by
        cases fl with
        | false => rfl
        | true => rw [hfl0 rfl]; rfl
      have HFl := Lib.hid hfl
      have HFi := Lib.hid hfi
      clear hfl hfl0 hfi
      cases fl with
      | true =>
        have hm00 : m = 0 := HZe.out (of_decide_eq_true HFl.out)
        have hlen : z2.length = 0 := of_decide_eq_true HFl.out
        subst hm00
        go_wp2_with fail
        go_loopw [14, 15] (fun f i wr => i = .int .i64 0 ∧ f = .bool true ∧ Below w.heap.size w wr) (fun _ _ _ => 0)
        case atStart => exact ⟨rfl, rfl, D1⟩
        case round =>
          obtain ⟨rfl, rfl, hbw⟩ := hrel
          have hz : ¬ ((0 : Int) < (z2.length : Int)) := by omega
          go_wp2_with fail
          go_ret
          exact ⟨rfl, hbw⟩
      | false =>
        go_wp2_with fail
        go_loopw [14, 15] (fun f i wr => ∃ (k : Nat) (b : Bool), k ≤ z2.length ∧ i = .int .i64 (k : Nat) ∧ f = .bool b ∧ b = (false || (z2.take k).any (fun x => stampW x == m)) ∧ Below w.heap.size w wr) (fun _ i _ => z2.length - (intOf i).toNat)
        case atStart => exact ⟨0, false, Nat.zero_le _, rfl, rfl, rfl, D1⟩
        case round =>
          obtain ⟨k, b, hk, rfl, rfl, hb, hbw⟩ := hrel
          by_cases hlt : k < z2.length
          · obtain ⟨ad, rfl, hblk, hcell⟩ := (HR.out.below (Nat.le_refl _) hbw) k hlt
            have hux := HU.out k hlt
            have hgk := HGe.out k hlt
            have hst := HSt.out k hlt
            rw [← hb] at hst
            obtain ⟨x, hx⟩ : ∃ x, z2.getD k 0 = x := ⟨_, rfl⟩
            rw [hx] at hcell hux hgk hst
            have SX := Lib.hid (fun W => wordStamp_any x W hux)
            generalize stampW x = sx at *
            have HSt2 := Lib.hid hst
            clear hb hst hux hx
            have hng : ¬ (m < sx) := by omega
            cases b with
            | true =>
              go_wp2_with fail
              refine (SX.out _).mono ?_
              rintro e y2 ⟨rfl, d2⟩
              go_wp2_with fail
              go_roundw
              case rel => exact ⟨k + 1, true, by omega, by go_num, rfl, by rw [HSt2.out]; rfl, btW hbw d2⟩
              case measure => simp [intOf]; omega
            | false =>
              go_wp2_with fail
              refine (SX.out _).mono ?_
              rintro e y2 ⟨rfl, d2⟩
              have hblk2 := hblk
              have hc2 := (World.cell?_of_block (a := ad.add k) (show y2.heap[(ad.add k).block]? = wr.heap[(ad.add k).block]? by rw [add_block]; exact d2.block _ hblk)).trans hcell
              go_wp2_with fail
              refine (SX.out _).mono ?_
              rintro e y3 ⟨rfl, d3⟩
              go_wp2_with fail
              go_roundw
              case rel => exact ⟨k + 1, sx == m, by omega, by go_num, rfl, by rw [HSt2.out]; rfl, btW (btW hbw d2) d3⟩
              case measure => simp [intOf]; omega
          · obtain rfl : k = z2.length := by omega
            have hbt : b = true := hb.trans HFo.out
            subst hbt
            go_wp2_with fail
            go_ret
            exact ⟨rfl, hbw⟩

set_option maxRecDepth 100000 in
theorem lifted (os : Os) (started : os.Started) (H : Type) (enc : TypeId × Value → H) :
    ReturnsInHanded {} Try.checked os 5 .any (Rows.wordNextsSpec.pre6 enc Try.prog Try.f5 Rows.wordNextsRow.domain false) (Rows.wordNextsSpec.post enc Try.prog Try.f5 false true false false) := by
  refine returnsInHanded_of_change (C := Try.checked) own started (by kernel_rfl) Try.func5
    (ChangeSpec.witness6 (enc := enc) (C := Try.checked) false ⟨#[], #[.int .u64 0, .int .i64 0, .slice none 0 0], []⟩ 8 (by kernel_rfl) (by kernel_rfl) (by kernel_rfl) (by kernel_rfl)) ?_
  intro W base args ds gs before hval0 hW hcnd _
  have hval : ∀ (j : Nat) t v, Try.f5.params[j]? = some t → args[j]? = some v → Value.okWide Try.prog W .any base t v := hval0
  have hW' := hW
  obtain ⟨p, q, hA0, hV, rfl, hfz, hnd⟩ := hW
  have hA : DataW.TrodAll enc Try.prog W 0 (fun _ => true) true Try.f5.params.toList args.toList ds p := hA0
  rw [Try.params5] at hA hval
  obtain ⟨v0, vs0, d0, ds0, p0, q0, hargs, rfl, rfl, h0, r0⟩ := trodAll_cons hA
  obtain ⟨v1, vs1, d1, ds1, p1, q1, rfl, rfl, rfl, h1, r1⟩ := trodAll_cons r0
  obtain ⟨v2, vs2, d2, ds2, p2, q2, rfl, rfl, rfl, h2, r2⟩ := trodAll_cons r1
  obtain ⟨rfl, rfl, rfl⟩ := trodAll_nil r2
  obtain rfl : args = #[v0, v1, v2] := by cases args; simp_all
  obtain ⟨rfl, rfl⟩ := trodVars_none hV
  obtain ⟨a0, rfl, rfl, rfl, w0⟩ := open_int Try.underlying24 (hval 0 24 v0 rfl rfl) h0
  obtain ⟨a1, rfl, rfl, rfl, w1⟩ := open_int Try.underlying3 (hval 1 3 v1 rfl rfl) h1
  obtain ⟨a2, l2, c2, rfl⟩ := okWide_slice Try.underlying41 (hval 2 41 v2 rfl rfl)
  have k2 := h2
  have lt2 : ∀ x ∈ p2, x.block < W.heap.size := by obtain ⟨m, hm⟩ := k2; exact DataW.trod_lt m _ _ _ hm
  obtain ⟨z2, w2⟩ : ∃ zs, SlcU W a2 l2 c2 zs := by
    obtain ⟨fuel, hf⟩ := h2
    rcases open_ints Try.underlying41 Try.underlying24 (by kernel_rfl) hf with ⟨hcs, _⟩ | ⟨x, l, c, zs, hcs, _, hl, hm, hz, _, hcell, hwz⟩
    · simp [Value.cells] at hcs
      obtain ⟨rfl, rfl, rfl⟩ := hcs
      exact ⟨[], SlcU.none_ W⟩
    · simp [Value.cells] at hcs
      obtain ⟨rfl, rfl, rfl⟩ := hcs
      exact ⟨_, SlcU.some_ hl (by simpa using hz) hcell hwz⟩
  clear hA0 hval0
  refine (walk a0 a1 a2 l2 c2 z2 w0 w1 W w2).mono fun e W' ⟨he, bel⟩ => ?_
  subst he
  exact ⟨_, rfl, _, _, _, [], _, [], hW', trodAll_mk1 (shut_bool Try.underlying4 _), (trodAll_cons_mk (shut_int Try.underlying24 w0) (trodAll_cons_mk (shut_int Try.underlying3 w1) (trodAll_cons_mk (Below.trod laidOut (by kernel_rfl) (of_decide_eq_true (by kernel_rfl)) k2 bel lt2) trodAll_mk0))), rfl, bel.frame _, fun h => by cases h⟩

theorem over : Rows.wordNextsRow.holds Try.pinned (OpenSpec.ofChange Rows.wordNextsSpec) :=
  OpenClaim.holds_of_wide 5 Try.f5 rfl rfl rfl rfl rfl rfl rfl ⟨rfl, rfl, rfl, rfl, rfl⟩ rfl rfl rfl rfl rfl (by kernel_rfl) Try.func5 (by kernel_rfl)
    (of_decide_eq_true (by kernel_rfl)) (by unfold Func.isWrapper; first | (rw [if_pos (by decide +kernel)]; kernel_rfl) | (rw [if_neg (by decide +kernel)]; exact ⟨rfl, rfl⟩))
    (fun os started H enc _ => lifted os started H enc)
theorem proved : Rows.WordNextsSaid := over
end Go.Proofs.Ytphbckddcckgdaa.wordNexts
