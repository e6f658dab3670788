/- The slot that was freed last is taken first, its generation one more (P5.1, P5.2). -/
import Derived.Test.YtomcpjgklecopaaNum
import Derived.Test.YtomcpjgklecopaaArenaIs
import Derived.Test.YtomcpjgklecopaaArenaAwake
import Derived.Test.YtomcpjgklecopaaArenaMath
import Derived.Test.YtomcpjgklecopaaPass
namespace Go.Proofs.Ytomcpjgklecopaa.arenaTurns
open Go.ChangeShapes Go.WideShapes Go.ChangeAt Go.RowKit
open Go.ChangeMaps (open_string shut_string)
set_option linter.unusedVariables false

set_option maxHeartbeats 40000000 in
set_option maxRecDepth 100000 in
theorem walk (a0 : Int) (a1 : Option Addr) (l1 c1 : Nat) (z1 : List Int) (w0 : (Lit.int .i64 a0).wf = true) (w : World) (w1 : SlcI w a1 l1 c1 z1) :
    Calls Try.prog 6 #[.int .i64 a0, .slice a1 l1 c1] w fun e w' => e = .returned (.bool true) ∧ Below w.heap.size w w' := by
  have he := wf_i64 w0
  obtain ⟨rfl, hlc, hrd, hus⟩ := w1
  have HR := Lib.hid hrd
  have HU := Lib.hid hus
  obtain ⟨C⟩ := arSpec_is
  obtain ⟨q, hq, hq1⟩ := idx_in a0 20 (by decide) (by decide)
  have hc : ((q + 1 : Nat) : Int) = 1 + (q : Int) := by omega
  have hq20 : q < 20 := by omega
  have HC := Lib.hid hc
  clear w0 hrd hus hq1 hc
  go_enter Try.func6, Try.ntmps6
  go_wp2_with fail
  refine (awake_any C _).mono ?_
  rintro e x1 ⟨rfl, b1⟩
  by_cases hbig : 40 < z1.length
  · have hbig2 : (40 : Int) < (z1.length : Int) := by omega
    go_wp2_with fail
    refine (awake_any C _).mono ?_
    rintro e x2 ⟨rfl, b2⟩
    go_wp2_with fail
    go_ret
    exact ⟨rfl, b1.trans (b2.mono b1.size)⟩
  · have hbig2 : ¬ ((40 : Int) < (z1.length : Int)) := by omega
    have hl1 : z1.length ≤ 40 := by omega
    clear hbig
    have n1 := C.new_ (q + 1) x1 (by omega)
    rw [HC.out] at n1
    have HN1 := Lib.hid n1
    clear n1
    go_wp2_with fail
    refine HN1.out.mono ?_
    rintro e x2 ⟨N, S2, rfl, h2, b2⟩
    have B2 := b1.trans (b2.mono b1.size)
    have lo2 : ∀ k, S2 k → w.heap.size ≤ k := fun k hk => Nat.le_trans b1.size (C.foot h2 k hk).1
    have n2 := C.many_ (q + 1) h2 (by rw [slotsR_len]; exact Nat.le_refl _)
    rw [HC.out, List.take_of_length_le (by rw [slotsR_len]; exact Nat.le_refl _), List.drop_eq_nil_of_le (by rw [slotsR_len]; exact Nat.le_refl _), List.nil_append] at n2
    have HN2 := Lib.hid n2
    clear n2 hbig2 HN1
    go_wp2_with fail
    refine HN2.out.mono ?_
    rintro e x3 ⟨v8, S3, rfl, r8, h3, m3, hv8⟩
    have B3 := m3.1.below (B := w.heap.size) B2.size lo2
    have B3 := B2.trans B3
    have lo3 : ∀ k, S3 k → w.heap.size ≤ k := fun k hk => (m3.2 k hk).elim (lo2 k) (fun h => Nat.le_trans B2.size h)
    obtain ⟨A8, c8, rfl, hc8, _, hb8, _⟩ := r8.rd
    have r8 := r8.mono B2.size
    have Hv8 := Lib.hid hv8
    clear hb8 hv8 HN2 m3 h2 lo2 b2 B2
    go_wp2_with fail
    go_loopw [10, 11] (fun vl i wr => ∃ (k : Nat) (vL : Value) (F tk : List H2) (S : Nat → Prop), vl = vL ∧ i = .int .i64 (k : Nat) ∧ k ≤ z1.length ∧ HRow wr w.heap.size vL F.length F ∧ (∀ g, vL.ownBlock = some g → ¬ S g ∧ (Value.slice A8 (q + 1) c8).ownBlock ≠ some g) ∧
      C.At wr x1.heap.size N (q + 1) (F.map bump).reverse tk S ∧ (tk.Nodup ∧ tk.length + F.length = q + 1 ∧ (∀ z ∈ tk, z.2 = 0) ∧ (∀ z ∈ F, z.2 = 0)) ∧ HRow wr w.heap.size (.slice A8 (q + 1) c8) (q + 1) (slotsR (q + 1)) ∧ (∀ g, (Value.slice A8 (q + 1) c8).ownBlock = some g → ¬ S g) ∧ (∀ k, S k → w.heap.size ≤ k) ∧ Below w.heap.size w wr) (fun _ i _ => z1.length - (intOf i).toNat)
    case atStart => exact ⟨0, _, [], slotsR (q + 1), S3, rfl, rfl, Nat.zero_le _, HRow.nil _ _, (fun g h => by cases h), h3, ⟨slotsR_nodup _, by rw [slotsR_len]; rfl, fun z hz => slotsR_zero hz, fun z hz => by cases hz⟩, r8, Hv8.out, lo3, B3⟩
    case round =>
      obtain ⟨k, vL, F, tk, S, rfl, rfl, hk, hrow, hvS, hAt, htk, r8, hv8, loS, hbw⟩ := hrel
      clear h3 lo3 B3 Hv8
      obtain ⟨AL, cL, eL, _, _, _, _⟩ := hrow.rd
      subst eL
      have HRw := Lib.hid hrow
      have HvS := Lib.hid hvS
      have HAt := Lib.hid hAt
      have HTk := Lib.hid htk
      have H8 := Lib.hid r8
      have Hv8 := Lib.hid hv8
      have LoS := Lib.hid loS
      clear hrow hvS hAt htk hv8 loS
      by_cases hlt : k < z1.length
      · obtain ⟨ad, rfl, hblk, hcell⟩ := (HR.out.below (Nat.le_refl _) hbw) k hlt
        obtain ⟨u, huu⟩ : ∃ x, z1.getD k 0 = x := ⟨_, rfl⟩
        rw [huu] at hcell
        obtain ⟨x, hx, hxlt⟩ := idx_in u (1 + (q : Int)) (by omega) (by omega)
        have hxK : x < q + 1 := by omega
        have hx8 : (slotsR (q + 1)).getD x H2.no = ((x : Int), 0) := slotsR_get hxK
        obtain ⟨A8', c8', e8, _, rd8, _, _⟩ := r8.rd
        have e8a : A8 = A8' := by injection e8
        have e8c : c8 = c8' := by injection e8
        subst e8a
        subst e8c
        obtain ⟨ae, rfl, _, g0, g1⟩ := rd8.at2 (k := x) (by rw [slotsR_len]; exact hxK)
        rw [hx8] at g0 g1
        dsimp only at g0 g1
        have hxi : (x : Int) < (q : Int) + 1 := by omega
        clear huu hx8 r8 rd8 e8
        have hA2 := C.alloc (C.alloc HAt.out (.cells #[.int .i64 (x : Int), .int .i64 0] 34)) (.cells #[.int .i64 (x : Int), .int .i64 0] 34)
        have f1 := C.free_ (some ⟨(wr.alloc (.cells #[.int .i64 (x : Int), .int .i64 0] 34)).heap.size, 0, none⟩) 1 [((x : Int), 0)] hA2 (rdH_one _ x 0) (fun ad e h => by injection e with e; rw [← e] at h; have := (C.foot (C.alloc HAt.out (.cells #[.int .i64 (x : Int), .int .i64 0] 34)) _ h).2; exact Nat.lt_irrefl _ this) (Nat.le_refl _) (by simp) (fun z hz => by have := HTk.out.2.2.1 z hz; omega) (one64 (by unfold I64H; omega))
        rw [show (wr.alloc (.cells #[.int .i64 (x : Int), .int .i64 0] 34)).heap.size = wr.heap.size + 1 from by simp] at f1
        have HF1 := Lib.hid f1
        have xb := BoxH.new (w := wr) (S := S) (fun k hk => (C.foot HAt.out k hk).2) ((x : Int), 0)
        obtain ⟨xc0, xc1⟩ := xb.cells
        dsimp only at xc0 xc1
        clear f1 hA2
        go_wp2_with fail
        refine HF1.out.mono ?_
        rintro e y1 ⟨S', m1, hor⟩
        have lo' : ∀ k, S' k → w.heap.size ≤ k := fun k hk => (m1.2 k hk).elim (LoS.out k) (fun h => by have := hbw.size; simp at h; omega)
        have hb1 := (((hbw.alloc hbw.size (.cells #[.int .i64 (x : Int), .int .i64 0] 34)).alloc (by have := hbw.size; simp; omega) (.cells #[.int .i64 (x : Int), .int .i64 0] 34))).trans (m1.1.below (B := w.heap.size) (by have := hbw.size; simp; omega) LoS.out)
        have xb1 := (xb.alloc (.cells #[.int .i64 (x : Int), .int .i64 0] 34)).moved m1
        obtain ⟨yc0, yc1⟩ := xb1.cells
        dsimp only at yc0 yc1
        have onS : Only S wr y1 := (((Only.refl S wr).alloc (.cells #[.int .i64 (x : Int), .int .i64 0] 34)).alloc (.cells #[.int .i64 (x : Int), .int .i64 0] 34)).trans m1.1 (fun x hx => .inl hx)
        have r81 := H8.out.only onS Hv8.out
        have rL1 := HRw.out.only onS (fun g hg => (HvS.out g hg).1)
        have nS' : ∀ g, g < wr.heap.size → ¬ S g → ¬ S' g := fun g hg hn h => (m1.2 g h).elim hn (fun h => by simp at h; omega)
        have hv81 : ∀ g, (Value.slice (some ae) (q + 1) c8).ownBlock = some g → ¬ S' g := fun g hg => nS' g (H8.out.lt g hg).2 (Hv8.out g hg)
        have hvL1 : ∀ g, (Value.slice AL F.length cL).ownBlock = some g → ¬ S' g ∧ (Value.slice (some ae) (q + 1) c8).ownBlock ≠ some g := fun g hg => ⟨nS' g (HRw.out.lt g hg).2 (HvS.out g hg).1, (HvS.out g hg).2⟩
        clear xc0 xc1 g0 g1
        rcases hor with ⟨hgood, rfl, hA1⟩ | ⟨hbad, rfl, hA1⟩
        · have hmem : ((x : Int), 0) ∈ tk := goodF_one.1 hgood
          rw [freeR_one, ← rev_snoc] at hA1
          dsimp only at hA1
          have hFl : F.length ≤ q + 1 := by have := HTk.out.2.1; omega
          have htk2 : (tk.filter (fun z => !(decide (z = ((x : Int), 0))))).Nodup ∧ (tk.filter (fun z => !(decide (z = ((x : Int), 0))))).length + (F ++ [((x : Int), 0)]).length = q + 1 ∧ (∀ z ∈ tk.filter (fun z => !(decide (z = ((x : Int), 0)))), z.2 = 0) ∧ (∀ z ∈ F ++ [((x : Int), 0)], z.2 = 0) := by
            obtain ⟨t1, t2, t3, t4⟩ := HTk.out
            have t5 : (tk.filter (fun z => !(decide (z = ((x : Int), 0))))).length + 1 = tk.length := filter_len t1 hmem
            have e1 : (F ++ [((x : Int), 0)] : List H2).length = F.length + 1 := by rw [List.length_append]; rfl
            refine ⟨t1.filter _, by rw [e1]; omega, fun z hz => t3 z (List.mem_filter.1 hz).1, fun z hz => ?_⟩
            rcases List.mem_append.1 hz with hz | hz
            · exact t4 z hz
            · rw [List.mem_singleton.1 hz]
          have HA1 := Lib.hid hA1
          have HTk2 := Lib.hid htk2
          have hA1' := C.alloc hA1 (.cells #[.int .i64 (x : Int), .int .i64 0] 34)
          clear hA1 htk2 hgood hmem
          go_wp2_with (at_builtin; refine wpList_append_hands rfl _ _ rfl w.heap.size _ F.length F rfl (rL1.only (S := NoB) ((Only.refl _ _).alloc (.cells #[.int .i64 (x : Int), .int .i64 0] 34)) (fun _ _ h => h)) (some ⟨y1.heap.size, 0, none⟩) 1 1 [((x : Int), 0)] rfl rfl (rdH_one y1 x 0) ?s2 ?s3 (y1.heap.size + 1) ?s4 ?_)
          case s2 => simp; omega
          case s3 => have := hb1.size; simp; omega
          case s4 => simp
          intro v4 w4 r4 g4 l4
          obtain ⟨A4, cv4, rfl, _, _, _, _⟩ := r4.rd
          have k1 := HRw.out.lt
          have k2 := onS.size
          have og : Only (fun g => (Value.slice AL F.length cL).ownBlock = some g) y1 w4 := ((Only.refl _ y1).alloc (.cells #[.int .i64 (x : Int), .int .i64 0] 34)).grown g4 (fun g hg => .inl hg)
          have hA4 := C.only HA1.out og (fun g hS hg => (hvL1 g hg).1 hS)
          have r84 := r81.only og (fun g hg h => (hvL1 g h).2 hg)
          have hb4 : Below w.heap.size w w4 := (hb1.alloc hb1.size (.cells #[.int .i64 (x : Int), .int .i64 0] 34)).grown g4 (by have := hb1.size; simp; omega) (fun g hg => (k1 g hg).1)
          have hv4 : ∀ g, (Value.slice A4 (F.length + 1) cv4).ownBlock = some g → ¬ S' g ∧ (Value.slice (some ae) (q + 1) c8).ownBlock ≠ some g := fun g hg => by
            rcases l4 g hg with h | h
            · exact hvL1 g h
            · refine ⟨fun hs => ?_, fun h8 => ?_⟩
              · have := (C.foot HA1.out g hs).2; omega
              · have := (H8.out.lt g h8).2; omega
          have r4' : HRow w4 w.heap.size (.slice A4 (F.length + 1) cv4) (F ++ [((x : Int), 0)]).length (F ++ [((x : Int), 0)]) := by rw [List.length_append]; exact r4
          have FA := Lib.hid hA4
          have FB := Lib.hid hv4
          have FC := Lib.hid r4'
          have FD := Lib.hid hv81
          have FE := Lib.hid lo'
          clear hA4 hv4 r4' r4 g4 l4 hv81 lo' hvL1 nS' yc0 yc1
          go_wp2_with fail
          go_roundw
          case rel => exact ⟨k + 1, _, F ++ [((x : Int), 0)], _, S', rfl, by go_num, by omega, FC.out, FB.out, FA.out, HTk2.out, r84, FD.out, FE.out, hb4⟩
          case measure => simp [intOf]; omega
        · have FA := Lib.hid hA1
          have FB := Lib.hid hvL1
          have FC := Lib.hid rL1
          have FD := Lib.hid hv81
          have FE := Lib.hid lo'
          clear hA1 hvL1 rL1 hv81 lo' nS' hbad yc0 yc1
          go_wp2_with fail
          go_roundw
          case rel => exact ⟨k + 1, _, F, tk, S', rfl, by go_num, by omega, FC.out, FB.out, FA.out, HTk.out, r81, FD.out, FE.out, hb1⟩
          case measure => simp [intOf]; omega
      · obtain rfl : k = z1.length := by omega
        clear hlt hk
        go_wp2_with fail
        go_loopw [13] (fun i wj => ∃ (j : Nat) (v : Int) (tk' : List H2) (S' : Nat → Prop), j ≤ F.length ∧ i = .int .i64 v ∧ v = (j : Int) - 1 ∧ C.At wj x1.heap.size N (q + 1) ((F.take j).map bump).reverse tk' S' ∧ tk'.length + j = q + 1 ∧ HRow wj w.heap.size (.slice AL F.length cL) F.length F ∧ (∀ g, (Value.slice AL F.length cL).ownBlock = some g → ¬ S' g) ∧ (∀ k, S' k → w.heap.size ≤ k) ∧ Below w.heap.size w wj) (fun i _ => (intOf i + 1).toNat)
        case atStart => exact ⟨F.length, _, tk, S, Nat.le_refl _, rfl, by have := HTk.out.2.1; unfold wrap64; omega, by rw [List.take_length]; exact HAt.out, HTk.out.2.1, HRw.out, fun g hg => (HvS.out g hg).1, LoS.out, hbw⟩
        case round =>
          have HF0 := Lib.hid HTk.out.2.2.2
          have hFq : F.length ≤ q + 1 := by have := HTk.out.2.1; omega
          clear HRw HvS HAt HTk H8 Hv8 LoS hbw r8
          obtain ⟨j, v, tk', S', hj, rfl, hv, hAt, htl, hrow, hvS, loS, hbj⟩ := hrel
          rcases Nat.eq_zero_or_pos j with hj0 | hj0
          · subst hj0
            have hv1 : v = -1 := by omega
            subst hv1
            have t1 : Calls Try.prog 10 #[.pointer (some ⟨N, 0, none⟩)] wr fun e w' => ∃ S'', e = .returned (.tuple #[.agg #[.int .i64 0, .int .i64 0], .int .i64 50]) ∧ C.At w' x1.heap.size N (q + 1) [] (tk' ++ []) S'' ∧ Moved S' S'' wr w' := C.take_ hAt
            rw [List.append_nil] at t1
            have HT1 := Lib.hid t1
            have htl2 : ((tk'.length : Nat) : Int) = 1 + (q : Int) := by omega
            have HTl := Lib.hid htl2
            clear t1 htl htl2 hv hAt hvS hrow
            go_wp2_with fail
            refine HT1.out.mono ?_
            rintro e y1 ⟨S2, rfl, h1, m1⟩
            have hb1 := hbj.trans (m1.1.below (B := w.heap.size) hbj.size loS)
            have l1 := C.len_ (C.alloc h1 (.cells #[.int .i64 0, .int .i64 0] 34))
            rw [HTl.out] at l1
            have HL1 := Lib.hid l1
            have hb2 := hb1.alloc hb1.size (.cells #[.int .i64 0, .int .i64 0] 34)
            clear l1
            go_wp2_with fail
            refine HL1.out.mono ?_
            rintro e y2 ⟨rfl, e2⟩
            go_wp2_with fail
            go_ret
            exact ⟨rfl, hb2.trans (e2.mono hb2.size)⟩
          · obtain ⟨p, rfl⟩ : ∃ p, j = p + 1 := ⟨j - 1, by omega⟩
            have hv1 : v = (p : Int) := by omega
            subst hv1
            have hp : p < F.length := by omega
            rw [rev_take hp] at hAt
            obtain ⟨A', c', eA, _, rdF, _, _⟩ := hrow.rd
            have e1 : AL = A' := by injection eA
            subst e1
            obtain ⟨ad, rfl, _, g0, g1⟩ := rdF.at2 hp
            have hf0 := HF0.out _ (mem_getD hp)
            obtain ⟨f, hf⟩ : ∃ f, F.getD p H2.no = f := ⟨_, rfl⟩
            rw [hf] at hAt g0 g1 hf0
            obtain ⟨fa, fb⟩ := f
            dsimp only at hf0
            subst hf0
            have t1 : Calls Try.prog 10 #[.pointer (some ⟨N, 0, none⟩)] wr fun e w' => ∃ S'', e = .returned (.tuple #[.agg #[.int .i64 fa, .int .i64 1], .int .i64 0]) ∧ C.At w' x1.heap.size N (q + 1) ((F.take p).map bump).reverse (tk' ++ [(fa, 1)]) S'' ∧ Moved S' S'' wr w' := C.take_ hAt
            have HT1 := Lib.hid t1
            have HRo := Lib.hid hrow
            have HvS := Lib.hid hvS
            have hpi : (p : Int) < (F.length : Int) := by omega
            have hmv : Hid (tk'.length + (p + 1) = q + 1) := Lib.hid htl
            have qn : ∀ W, (binOp .neq 34 (.agg #[.int .i64 fa, .int .i64 1]) (.agg #[.int .i64 fa, .int .i64 1])).run Try.prog W = .ok (.bool false) W := fun W => by
              have := neq_hand fa 1 fa 1 W
              simpa using this
            have hfF := Lib.hid hf
            clear t1 hv hf htl hrow hvS eA rdF g0 g1 hj hAt
            go_wp2_with fail
            refine HT1.out.mono ?_
            rintro e y1 ⟨S2, rfl, h1, m1⟩
            have hb1 := hbj.trans (m1.1.below (B := w.heap.size) hbj.size loS)
            have lo2 : ∀ k, S2 k → w.heap.size ≤ k := fun k hk => (m1.2 k hk).elim (loS k) (fun h => Nat.le_trans hbj.size h)
            have r1 := HRo.out.only m1.1 HvS.out
            have v1 : ∀ g, (Value.slice (some ad) F.length cL).ownBlock = some g → ¬ S2 g := fun g hg hs => (m1.2 g hs).elim (HvS.out g hg) (fun h => by have := (HRo.out.lt g hg).2; omega)
            have xb := BoxH.new (w := y1) (S := S2) (fun k hk => (C.foot h1 k hk).2) (fa, 1)
            have h1' := C.alloc h1 (.cells #[.int .i64 fa, .int .i64 1] 34)
            have hb1' := hb1.alloc hb1.size (.cells #[.int .i64 fa, .int .i64 1] 34)
            have r1' := r1.only (S := NoB) ((Only.refl _ y1).alloc (.cells #[.int .i64 fa, .int .i64 1] 34)) (fun _ _ h => h)
            have rcell : ∀ W, Below (y1.alloc (.cells #[.int .i64 fa, .int .i64 1] 34)).heap.size (y1.alloc (.cells #[.int .i64 fa, .int .i64 1] 34)) W → W.cell? (ad.add (p * 2)) = some (.int .i64 fa) ∧ W.cell? { block := (ad.add (p * 2)).block, off := (ad.add (p * 2)).off + 1 } = some (.int .i64 0) := fun W hW => by
              have r := r1'.only (S := NoB) (Below.only hW) (fun _ _ h => h)
              obtain ⟨A', c', eA, _, rdF, _, _⟩ := r.rd
              have e1 : some ad = A' := by injection eA
              subst e1
              obtain ⟨ae, e2, _, g0, g1⟩ := rdF.at2 hp
              obtain rfl : ad = ae := by injection e2
              rw [hfF.out] at g0 g1
              exact ⟨g0, g1⟩
            have g0 : Below (y1.alloc (.cells #[.int .i64 fa, .int .i64 1] 34)).heap.size (y1.alloc (.cells #[.int .i64 fa, .int .i64 1] 34)) (y1.alloc (.cells #[.int .i64 fa, .int .i64 1] 34)).drew := (Below.refl _ _).drew
            go_wp2_with fail
            refine wp_region_held_drew (S := (fun w' => (w'.cell? { block := y1.heap.size, off := 0 } = some (.int .i64 fa) ∧ w'.cell? { block := y1.heap.size, off := 1 } = some (.int .i64 1)) ∧ w'.cell? (ad.add (p * 2)) = some (.int .i64 fa) ∧ w'.cell? { block := (ad.add (p * 2)).block, off := (ad.add (p * 2)).off + 1 } = some (.int .i64 0))) (by kernel_rfl) ⟨xb.cells, rcell _ g0⟩ (fun hHeld => ?_)
            refine wpAnyH_take (i := 0) (v := ?_) (by simp only [List.getElem?_toArray, List.getElem?_cons_zero]; rfl) (by kernel_rfl) (by kernel_rfl) (by kernel_rfl) (by exact fun _ _ _ h => h) (Or.inl ⟨by rfl, ?_⟩) (by assumption) ?_
            rotate_left
            · intro w hSw; (try dsimp only at hSw); go_simp; (try with_reducible rfl)
            try simp only [Act.put, List.setIfInBounds_toArray, List.set_cons_zero, List.set_cons_succ]
            refine wpAnyH_take (i := 1) (v := ?_) (by simp only [List.getElem?_toArray, List.getElem?_cons_zero, List.getElem?_cons_succ]; rfl) (by kernel_rfl) (by kernel_rfl) (by kernel_rfl) (by exact fun _ _ _ h => h) (Or.inl ⟨by rfl, ?_⟩) (by assumption) ?_
            rotate_left
            · intro w hSw; (try dsimp only at hSw); go_simp; (try with_reducible rfl)
            try simp only [Act.put, List.setIfInBounds_toArray, List.set_cons_zero, List.set_cons_succ]
            refine wpAnyH_take (i := 2) (v := ?_) (by simp only [List.getElem?_toArray, List.getElem?_cons_zero, List.getElem?_cons_succ]; rfl) (by kernel_rfl) (by kernel_rfl) (by kernel_rfl) (by exact fun _ _ _ h => h) (Or.inl ⟨by rfl, ?_⟩) (by assumption) ?_
            rotate_left
            · intro w hSw; (try dsimp only at hSw); go_simp; (try with_reducible rfl)
            try simp only [Act.put, List.setIfInBounds_toArray, List.set_cons_zero, List.set_cons_succ]
            refine wpAnyH_take (i := 3) (v := ?_) (by simp only [List.getElem?_toArray, List.getElem?_cons_zero, List.getElem?_cons_succ]; rfl) (by kernel_rfl) (by kernel_rfl) (by kernel_rfl) (by exact fun _ _ _ h => h) (Or.inl ⟨by rfl, ?_⟩) (by assumption) ?_
            rotate_left
            · intro w hSw; (try dsimp only at hSw); go_simp; (try with_reducible rfl)
            try simp only [Act.put, List.setIfInBounds_toArray, List.set_cons_zero, List.set_cons_succ]
            refine wpAnyH_take (i := 4) (v := ?_) (by simp only [List.getElem?_toArray, List.getElem?_cons_zero, List.getElem?_cons_succ]; rfl) (by kernel_rfl) (by kernel_rfl) (by kernel_rfl) (by exact fun _ _ _ h => h) (Or.inl ⟨by rfl, ?_⟩) (by assumption) ?_
            rotate_left
            · intro w hSw; (try dsimp only at hSw); go_simp; (try with_reducible rfl)
            try simp only [Act.put, List.setIfInBounds_toArray, List.set_cons_zero, List.set_cons_succ]
            refine wpAnyH_take (i := 5) (v := ?_) (by simp only [List.getElem?_toArray, List.getElem?_cons_zero, List.getElem?_cons_succ]; rfl) (by kernel_rfl) (by kernel_rfl) (by kernel_rfl) (by exact fun _ _ _ h => h) (Or.inl ⟨by rfl, ?_⟩) (by assumption) ?_
            rotate_left
            · intro w hSw; (try dsimp only at hSw); go_simp; (try with_reducible rfl)
            try simp only [Act.put, List.setIfInBounds_toArray, List.set_cons_zero, List.set_cons_succ]
            refine wpAnyH_take (i := 6) (v := ?_) (by simp only [List.getElem?_toArray, List.getElem?_cons_zero, List.getElem?_cons_succ]; rfl) (by kernel_rfl) (by kernel_rfl) (by kernel_rfl) (by exact fun _ _ _ h => h) (Or.inl ⟨by rfl, ?_⟩) (by assumption) ?_
            rotate_left
            · intro w hSw; (try dsimp only at hSw); go_simp; (try with_reducible rfl)
            try simp only [Act.put, List.setIfInBounds_toArray, List.set_cons_zero, List.set_cons_succ]
            refine wpAnyH_take (i := 7) (v := ?_) (by simp only [List.getElem?_toArray, List.getElem?_cons_zero, List.getElem?_cons_succ]; rfl) (by kernel_rfl) (by kernel_rfl) (by kernel_rfl) (by exact fun _ _ _ h => h) (Or.inl ⟨by rfl, ?_⟩) (by assumption) ?_
            rotate_left
            · intro w hSw; (try dsimp only at hSw); go_simp; (try with_reducible rfl)
            try simp only [Act.put, List.setIfInBounds_toArray, List.set_cons_zero, List.set_cons_succ]
            refine wpAnyH_take (i := 8) (v := ?_) (by simp only [List.getElem?_toArray, List.getElem?_cons_zero, List.getElem?_cons_succ]; rfl) (by kernel_rfl) (by kernel_rfl) (by kernel_rfl) (by exact fun _ _ _ h => h) (Or.inl ⟨by rfl, ?_⟩) (by assumption) ?_
            rotate_left
            · intro w hSw; (try dsimp only at hSw); go_simp; (try with_reducible rfl)
            try simp only [Act.put, List.setIfInBounds_toArray, List.set_cons_zero, List.set_cons_succ]
            refine wpAnyH_take (i := 9) (v := ?_) (by simp only [List.getElem?_toArray, List.getElem?_cons_zero, List.getElem?_cons_succ]; rfl) (by kernel_rfl) (by kernel_rfl) (by kernel_rfl) (by exact fun _ _ _ h => h) (Or.inl ⟨by rfl, ?_⟩) (by assumption) ?_
            rotate_left
            · intro w hSw; (try dsimp only at hSw); go_simp; (try with_reducible rfl)
            try simp only [Act.put, List.setIfInBounds_toArray, List.set_cons_zero, List.set_cons_succ]
            refine wpAnyH_take (i := 10) (v := ?_) (by simp only [List.getElem?_toArray, List.getElem?_cons_zero, List.getElem?_cons_succ]; rfl) (by kernel_rfl) (by kernel_rfl) (by kernel_rfl) (by exact fun _ _ _ h => h) (Or.inl ⟨by rfl, ?_⟩) (by assumption) ?_
            rotate_left
            · intro w hSw; (try dsimp only at hSw); go_simp; (try with_reducible rfl)
            try simp only [Act.put, List.setIfInBounds_toArray, List.set_cons_zero, List.set_cons_succ]
            refine wpAnyH_take (i := 11) (v := ?_) (by simp only [List.getElem?_toArray, List.getElem?_cons_zero, List.getElem?_cons_succ]; rfl) (by kernel_rfl) (by kernel_rfl) (by kernel_rfl) (by exact fun _ _ _ h => h) (Or.inl ⟨by rfl, ?_⟩) (by assumption) ?_
            rotate_left
            · intro w hSw; (try dsimp only at hSw); go_simp; (try with_reducible rfl)
            try simp only [Act.put, List.setIfInBounds_toArray, List.set_cons_zero, List.set_cons_succ]
            refine wpAnyH_take (i := 12) (v := ?_) (by simp only [List.getElem?_toArray, List.getElem?_cons_zero, List.getElem?_cons_succ]; rfl) (by kernel_rfl) (by kernel_rfl) (by kernel_rfl) (by exact fun _ _ _ h => h) (Or.inl ⟨by rfl, ?_⟩) (by assumption) ?_
            rotate_left
            · intro w hSw; (try dsimp only at hSw); go_simp; (try with_reducible rfl)
            try simp only [Act.put, List.setIfInBounds_toArray, List.set_cons_zero, List.set_cons_succ]
            refine wpAnyH_take (i := 13) (v := ?_) (by simp only [List.getElem?_toArray, List.getElem?_cons_zero, List.getElem?_cons_succ]; rfl) (by kernel_rfl) (by kernel_rfl) (by kernel_rfl) (by exact fun _ _ _ h => h) (Or.inl ⟨by rfl, ?_⟩) (by assumption) ?_
            rotate_left
            · intro w hSw; (try dsimp only at hSw); go_simp; (try with_reducible rfl)
            try simp only [Act.put, List.setIfInBounds_toArray, List.set_cons_zero, List.set_cons_succ]
            refine wpAnyH_take (i := 14) (v := ?_) (by simp only [List.getElem?_toArray, List.getElem?_cons_zero, List.getElem?_cons_succ]; rfl) (by kernel_rfl) (by kernel_rfl) (by kernel_rfl) (by exact fun _ _ _ h => h) (Or.inl ⟨by rfl, ?_⟩) (by assumption) ?_
            rotate_left
            · intro w hSw; (try dsimp only at hSw); go_simp; (try with_reducible rfl)
            try simp only [Act.put, List.setIfInBounds_toArray, List.set_cons_zero, List.set_cons_succ]
            refine wpAnyH_ready (rs := [15]) (by kernel_rfl) (by simp) ?_
            refine AllReadyH.cons (by simp only [List.getElem?_toArray, List.getElem?_cons_zero, List.getElem?_cons_succ]; rfl) (fun K hK => ?_) AllReadyH.nil
            go_simp
            refine (handle_any fa 1 _).mono ?_
            rintro e y2 ⟨rfl, e2⟩
            have g2 : Below (y1.alloc (.cells #[.int .i64 fa, .int .i64 1] 34)).heap.size (y1.alloc (.cells #[.int .i64 fa, .int .i64 1] 34)) y2 := g0.trans e2
            unfold handV
            go_wp2_with fail
            refine hK.out _ _ (⟨(xb.below g2).cells, rcell _ g2⟩) (fun hHeld => ?_)
            clear hK K
            try simp only [Act.put, List.setIfInBounds_toArray, List.set_cons_zero, List.set_cons_succ]
            refine wpAnyH_take (i := 16) (v := ?_) (by simp only [List.getElem?_toArray, List.getElem?_cons_zero, List.getElem?_cons_succ]; rfl) (by kernel_rfl) (by kernel_rfl) (by kernel_rfl) (by exact fun _ _ _ h => h) (Or.inl ⟨by rfl, ?_⟩) (by assumption) ?_
            rotate_left
            · intro w hSw; (try dsimp only at hSw); go_simp; (try with_reducible rfl)
            try simp only [Act.put, List.setIfInBounds_toArray, List.set_cons_zero, List.set_cons_succ]
            refine wpAnyH_take (i := 17) (v := ?_) (by simp only [List.getElem?_toArray, List.getElem?_cons_zero, List.getElem?_cons_succ]; rfl) (by kernel_rfl) (by kernel_rfl) (by kernel_rfl) (by exact fun _ _ _ h => h) (Or.inl ⟨by rfl, ?_⟩) (by assumption) ?_
            rotate_left
            · intro w hSw; (try dsimp only at hSw); go_simp; (try with_reducible rfl)
            try simp only [Act.put, List.setIfInBounds_toArray, List.set_cons_zero, List.set_cons_succ]
            refine wpAnyH_done (by kernel_rfl) ?_ _
            go_wp2_with fail
            go_roundw
            case rel => exact ⟨p, _, tk' ++ [(fa, 1)], S2, by omega, rfl, rfl, C.below h1' g2, by rw [List.length_append]; have := hmv.out; show tk'.length + 1 + p = q + 1; omega, r1'.only (S := NoB) (Below.only g2) (fun _ _ h => h), v1, lo2, hb1'.trans (g2.mono hb1'.size)⟩
            case measure => simp [intOf]

set_option maxRecDepth 100000 in
theorem lifted (os : Os) (started : os.Started) (H : Type) (enc : TypeId × Value → H) :
    ReturnsInHanded {} Try.checked os 6 .any (Rows.arenaTurnsSpec.pre6 enc Try.prog Try.f6 Rows.arenaTurnsRow.domain false) (Rows.arenaTurnsSpec.post enc Try.prog Try.f6 false true false false) := by
  refine returnsInHanded_of_change (C := Try.checked) own started (by kernel_rfl) Try.func6
    (ChangeSpec.witness6 (enc := enc) (C := Try.checked) false ⟨#[], #[.int .i64 0, .slice none 0 0], []⟩ 8 (by kernel_rfl) (by kernel_rfl) (by kernel_rfl) (by kernel_rfl)) ?_
  intro W base args ds gs before hval0 hW hcnd _
  have hval : ∀ (j : Nat) t v, Try.f6.params[j]? = some t → args[j]? = some v → Value.okWide Try.prog W .any base t v := hval0
  have hW' := hW
  obtain ⟨p, q, hA0, hV, rfl, hfz, hnd⟩ := hW
  have hA : DataW.TrodAll enc Try.prog W 0 (fun _ => true) true Try.f6.params.toList args.toList ds p := hA0
  rw [Try.params6] at hA hval
  obtain ⟨v0, vs0, d0, ds0, p0, q0, hargs, rfl, rfl, h0, r0⟩ := trodAll_cons hA
  obtain ⟨v1, vs1, d1, ds1, p1, q1, rfl, rfl, rfl, h1, r1⟩ := trodAll_cons r0
  obtain ⟨rfl, rfl, rfl⟩ := trodAll_nil r1
  obtain rfl : args = #[v0, v1] := by cases args; simp_all
  obtain ⟨rfl, rfl⟩ := trodVars_none hV
  obtain ⟨a0, rfl, rfl, rfl, w0⟩ := open_int Try.underlying3 (hval 0 3 v0 rfl rfl) h0
  obtain ⟨a1, l1, c1, rfl⟩ := okWide_slice Try.underlying50 (hval 1 50 v1 rfl rfl)
  have k1 := h1
  have lt1 : ∀ x ∈ p1, x.block < W.heap.size := by obtain ⟨m, hm⟩ := k1; exact DataW.trod_lt m _ _ _ hm
  obtain ⟨z1, w1⟩ : ∃ zs, SlcI W a1 l1 c1 zs := by
    obtain ⟨fuel, hf⟩ := h1
    rcases open_ints Try.underlying50 Try.underlying3 (by kernel_rfl) hf with ⟨hcs, _⟩ | ⟨x, l, c, zs, hcs, _, hl, hm, hz, _, hcell, hwz⟩
    · simp [Value.cells] at hcs
      obtain ⟨rfl, rfl, rfl⟩ := hcs
      exact ⟨[], SlcI.none_ W⟩
    · simp [Value.cells] at hcs
      obtain ⟨rfl, rfl, rfl⟩ := hcs
      exact ⟨_, SlcI.some_ hl (by simpa using hz) hcell hwz⟩
  clear hA0 hval0
  refine (walk a0 a1 l1 c1 z1 w0 W w1).mono fun e W' ⟨he, bel⟩ => ?_
  subst he
  exact ⟨_, rfl, _, _, _, [], _, [], hW', trodAll_mk1 (shut_bool Try.underlying4 _), (trodAll_cons_mk (shut_int Try.underlying3 w0) (trodAll_cons_mk (Below.trod laidOut (by kernel_rfl) (of_decide_eq_true (by kernel_rfl)) k1 bel lt1) trodAll_mk0)), rfl, bel.frame _, fun h => by cases h⟩

theorem over : Rows.arenaTurnsRow.holds Try.pinned (OpenSpec.ofChange Rows.arenaTurnsSpec) :=
  OpenClaim.holds_of_wide 6 Try.f6 rfl rfl rfl rfl rfl rfl rfl ⟨rfl, rfl, rfl, rfl, rfl⟩ rfl rfl rfl rfl rfl (by kernel_rfl) Try.func6 (by kernel_rfl)
    (of_decide_eq_true (by kernel_rfl)) (by unfold Func.isWrapper; first | (rw [if_pos (by decide +kernel)]; kernel_rfl) | (rw [if_neg (by decide +kernel)]; exact ⟨rfl, rfl⟩))
    (fun os started H enc _ => lifted os started H enc)
theorem proved : Rows.ArenaTurnsSaid := over
end Go.Proofs.Ytomcpjgklecopaa.arenaTurns
