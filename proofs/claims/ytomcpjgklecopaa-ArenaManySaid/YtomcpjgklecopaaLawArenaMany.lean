/- Several at once are those that come one by one (P5.1). -/
import Derived.Test.YtomcpjgklecopaaNum
import Derived.Test.YtomcpjgklecopaaArenaIs
import Derived.Test.YtomcpjgklecopaaArenaAwake
import Derived.Test.YtomcpjgklecopaaArenaTwo
import Derived.Test.YtomcpjgklecopaaPass
namespace Go.Proofs.Ytomcpjgklecopaa.arenaMany
open Go.ChangeShapes Go.WideShapes Go.ChangeAt Go.RowKit
open Go.ChangeMaps (open_string shut_string)
set_option linter.unusedVariables false

set_option maxHeartbeats 40000000 in
set_option maxRecDepth 100000 in
theorem walk (a0 : Int) (a1 : Option Addr) (l1 c1 : Nat) (z1 : List Int) (a2 : Int) (w0 : (Lit.int .i64 a0).wf = true) (w2 : (Lit.int .i64 a2).wf = true) (w : World) (w1 : SlcI w a1 l1 c1 z1) :
    Calls Try.prog 5 #[.int .i64 a0, .slice a1 l1 c1, .int .i64 a2] w fun e w' => e = .returned (.bool true) ∧ Below w.heap.size w w' := by
  have he := wf_i64 w0
  have hf := wf_i64 w2
  obtain ⟨rfl, hlc, hrd, hus⟩ := w1
  have HR := Lib.hid hrd
  have HU := Lib.hid hus
  obtain ⟨C⟩ := arSpec_is
  obtain ⟨q, hq, hq1⟩ := idx_in a0 30 (by decide) (by decide)
  have hq30 : q < 30 := by omega
  obtain ⟨y, hy, hy1⟩ := idx_in a2 40 (by decide) (by decide)
  have hy40 : y < 40 := by omega
  have hmm := @run_makeMap Try.prog
  clear w0 w2 hrd hus hq1 hy1
  go_enter Try.func5, Try.ntmps5
  go_wp2_with fail
  refine (awake_any C _).mono ?_
  rintro e x1 ⟨rfl, b1⟩
  by_cases hbig : 40 < z1.length
  · have hbig2 : (40 : Int) < (z1.length : Int) := by omega
    go_wp2_with fail
    refine (awake_any C _).mono ?_
    rintro e x2 ⟨rfl, b2⟩
    go_wp2_with fail
    go_ret
    exact ⟨rfl, b1.trans (b2.mono b1.size)⟩
  · have hbig2 : ¬ ((40 : Int) < (z1.length : Int)) := by omega
    have hl1 : z1.length ≤ 40 := by omega
    clear hbig
    have HN1 := Lib.hid (C.new_ q x1 (by omega))
    go_wp2_with fail
    refine HN1.out.mono ?_
    rintro e x2 ⟨N1, S1, rfl, h1, b2⟩
    have B2 := b1.trans (b2.mono b1.size)
    have HN2 := Lib.hid (C.new_ q x2 (by omega))
    clear HN1
    go_wp2_with fail
    refine HN2.out.mono ?_
    rintro e x3 ⟨N2, S2, rfl, h2, b3⟩
    have B3 := B2.trans (b3.mono B2.size)
    have M3 : TwoM C w x1.heap.size N1 x2.heap.size N2 q x3 (.slice none 0 0) [] (slotsR q) [] (slotsR q) [] S1 S2 :=
      ⟨C.below h1 b3, h2, fun k hk hs => by have := (C.foot h1 k hk).2; have := (C.foot h2 k hs).1; omega, fun k hk => hk.elim (fun h => Nat.le_trans b1.size (C.foot h1 k h).1) (fun h => Nat.le_trans B2.size (C.foot h2 k h).1), HRow.nil _ _, (fun g h => by cases h), B3⟩
    have n1 := C.many_ q M3.a1 (by rw [slotsR_len]; exact Nat.le_refl _)
    rw [List.take_of_length_le (by rw [slotsR_len]; exact Nat.le_refl _), List.drop_eq_nil_of_le (by rw [slotsR_len]; exact Nat.le_refl _), List.nil_append] at n1
    have HN3 := Lib.hid n1
    have HM3 := Lib.hid M3
    clear n1 M3 h1 h2 b2 b3 B2 B3 HN2 hbig2
    go_wp2_with fail
    refine HN3.out.mono ?_
    rintro e x4 ⟨v12, S1, rfl, r12, h1, m1, hv12⟩
    have M4 := (HM3.out.move1 h1 m1)
    have M4 := M4.row (z := slotsR q) (v := v12) (by rw [slotsR_len]; exact r12.mono HM3.out.bel.size) (fun g hg => ⟨hv12 g hg, fun hs => by have := (r12.lt g hg).1; have := (C.foot HM3.out.a2 g hs).2; omega⟩)
    obtain ⟨A12, c12, rfl, hc12, _, _, _⟩ := r12.rd
    have n2 := C.many_ q M4.a2 (by rw [slotsR_len]; exact Nat.le_refl _)
    rw [List.take_of_length_le (by rw [slotsR_len]; exact Nat.le_refl _), List.drop_eq_nil_of_le (by rw [slotsR_len]; exact Nat.le_refl _), List.nil_append] at n2
    have HN4 := Lib.hid n2
    have HM4 := Lib.hid M4
    clear n2 M4 h1 m1 r12 hv12 HN3 HM3
    go_wp2_with fail
    refine HN4.out.mono ?_
    rintro e x5 ⟨v14, S2, rfl, r14, h2, m2, hv14⟩
    have M5 := (HM4.out.move2 h2 m2)
    obtain ⟨A14, c14, rfl, hc14, rd14, _, _⟩ := r14.rd
    obtain ⟨A', c', eA, hc12, rd12, _, _⟩ := M5.rL.rd
    have e1 : A12 = A' := by injection eA
    have e2 : c12 = c' := by injection eA
    subst e1
    subst e2
    have cs := sameL_any A12 A14 c12 c14 (slotsR q) (slotsR q) x5 rd12 rd14 hc12 hc14 (by rw [slotsR_len]; omega) (by rw [slotsR_len]; omega)
    rw [decide_eq_true rfl, slotsR_len] at cs
    have HS := Lib.hid cs
    have HM5 := Lib.hid M5
    clear cs M5 h2 m2 r14 hv14 rd14 rd12 eA HN4 HM4
    go_wp2_with fail
    refine HS.out.mono ?_
    rintro e x6 ⟨rfl, b6⟩
    have M6 := (HM5.out.below b6).alloc (.map #[] 0)
    have P6 : MapM w (x6.alloc (.map #[] 0)) S1 S2 (.slice A12 q c12) x6.heap.size 0 (fun _ => none) 0 :=
      ⟨MapK.made _ _ _ _, fun h => by have := (HM5.out.below b6).foot _ (.inl h); omega, fun h => by have := (HM5.out.below b6).foot _ (.inr h); omega, fun h => by have := ((HM5.out.below b6).rL.lt _ h).2; omega, (HM5.out.below b6).bel.size⟩
    have HM6 := Lib.hid M6
    have HP6 := Lib.hid P6
    clear M6 P6 b6 HM5 HS
    go_wp2_with fail
    go_loopw [17] (fun i wr => ∃ (k : Nat) (fr tk : List H2) (F : List Nat) (g : Int → Option Value) (sz : Nat) (S1 S2 : Nat → Prop), i = .int .i64 (k : Nat) ∧ k ≤ z1.length ∧ TwoM C w x1.heap.size N1 x2.heap.size N2 q wr (.slice A12 q c12) (slotsR q) fr tk fr tk S1 S2 ∧
      MapM w wr S1 S2 (.slice A12 q c12) x6.heap.size k g sz ∧ ManyI q fr tk F g sz) (fun i _ => z1.length - (intOf i).toNat)
    case atStart => exact ⟨0, [], slotsR q, [], _, 0, S1, S2, rfl, Nat.zero_le _, HM6.out, HP6.out, ManyI.start q⟩
    case round =>
      clear HM6 HP6
      obtain ⟨k, fr, tk, F, g, sz, S1, S2, rfl, hk, hM, hP, hI⟩ := hrel
      have HM := Lib.hid hM
      have HP := Lib.hid hP
      have HI := Lib.hid hI
      have hbw := hM.bel
      clear hM hP hI
      by_cases hlt : k < z1.length ∧ 0 < q
      · obtain ⟨hlt, hq0⟩ := hlt
        have hlt2 : (k : Int) < (z1.length : Int) := by omega
        have hq02 : (0 : Int) < (q : Int) := by omega
        have hq03 : ¬ (q : Int) = 0 := by omega
        obtain ⟨ad, rfl, hblk, hcell⟩ := (HR.out.below (Nat.le_refl _) hbw) k hlt
        obtain ⟨u, huu⟩ : ∃ x, z1.getD k 0 = x := ⟨_, rfl⟩
        rw [huu] at hcell
        obtain ⟨x, hx, hxlt⟩ := idx_in u (q : Int) hq02 (by omega)
        have hxq : x < q := by omega
        have hlook := HP.out.mp.look (t := 52) (key := .int .i64 (x : Int)) (x := (x : Int)) intKeyed Try.underlying52 (boolZero wr) (keyI Try.underlying3 (by omega) (by omega))
        rw [HI.out.has x] at hlook
        clear huu hblk
        by_cases hxF : x ∈ F
        · rw [if_pos hxF] at hlook
          dsimp only [Option.getD] at hlook
          go_wp2_with fail
          go_roundw
          case rel => exact ⟨k + 1, fr, tk, F, g, sz, S1, S2, by go_num, by omega, HM.out, ⟨HP.out.mp.mono (Nat.le_succ _), HP.out.n1, HP.out.n2, HP.out.nL, HP.out.lo⟩, HI.out⟩
          case measure => simp [intOf]; omega
        · rw [if_neg hxF] at hlook
          dsimp only [Option.getD] at hlook
          go_wp2_with (at_mapUpdate; refine wpList_storeK rfl _ _ _ _ rfl HP.out.mp kInt_inj intKeyed Try.underlying52 (by unfold maxLen; omega) rfl (.int .i64 (x : Int)) (.bool true) rfl rfl (x : Int) (keyI Try.underlying3 (by omega) (by omega)) ?_; intro w1 p1 o1; have hp1 := Lib.hid p1; clear p1)
          have HM1 := Lib.hid (HM.out.stored HP.out o1)
          have HP1 := Lib.hid (MapM.mk hp1.out HP.out.n1 HP.out.n2 HP.out.nL HP.out.lo)
          have HI1 := Lib.hid (HI.out.free hxq hxF)
          have hmem := Lib.hid (HI.out.live x hxq hxF)
          clear hlook hcell hp1 o1
          have HSg := Lib.hid (show (slotsR q).getD x H2.no = ((x : Int), 0) from slotsR_get hxq)
          obtain ⟨A', c', eA, _, rd, _, _⟩ := HM1.out.rL.rd
          have e1 : A12 = A' := by injection eA
          subst e1
          obtain ⟨ae, rfl, _, g0, g1⟩ := rd.at2 (k := x) (by rw [slotsR_len]; exact hxq)
          rw [HSg.out] at g0 g1
          dsimp only at g0 g1
          have HGen := Lib.hid HI.out.gens
          have hA1 := (HM1.out.alloc (.cells #[.int .i64 (x : Int), .int .i64 0] 34)).a1
          have f1 := C.free_ (some ⟨w1.heap.size, 0, none⟩) 1 [((x : Int), 0)] hA1 (rdH_one w1 x 0) (fun ad e h => by injection e with e; rw [← e] at h; exact Nat.lt_irrefl _ (C.foot HM1.out.a1 _ h).2) (Nat.le_refl _) (by simp) (fun z hz => by have := HGen.out z hz; omega) (one64 (by unfold I64H; omega))
          have HF1 := Lib.hid f1
          clear f1 hA1 eA rd
          go_wp2_with fail
          go_simp
          go_wp2_with fail
          refine HF1.out.mono ?_
          rintro e y1 ⟨S1', m1, hor⟩
          rcases hor with ⟨hgood, rfl, hA1⟩ | ⟨hbad, _, _⟩
          case inr => exact absurd (goodF_one.2 hmem.out) hbad
          rw [freeR_one] at hA1
          dsimp only at hA1
          have HM2 := Lib.hid ((HM1.out.alloc (.cells #[.int .i64 (x : Int), .int .i64 0] 34)).move1 hA1 m1)
          have HP2 := Lib.hid ((HP1.out.alloc (.cells #[.int .i64 (x : Int), .int .i64 0] 34)).move1 m1)
          obtain ⟨A', c', eA, _, rd, _, _⟩ := HM2.out.rL.rd
          have e1 : some ae = A' := by injection eA
          subst e1
          obtain ⟨af, e2, _, g2, g3⟩ := rd.at2 (k := x) (by rw [slotsR_len]; exact hxq)
          obtain rfl : ae = af := by injection e2
          rw [HSg.out] at g2 g3
          dsimp only at g2 g3
          have hA2 := (HM2.out.alloc (.cells #[.int .i64 (x : Int), .int .i64 0] 34)).a2
          have f2 := C.free_ (some ⟨y1.heap.size, 0, none⟩) 1 [((x : Int), 0)] hA2 (rdH_one y1 x 0) (fun ad e h => by injection e with e; rw [← e] at h; exact Nat.lt_irrefl _ (C.foot HM2.out.a2 _ h).2) (Nat.le_refl _) (by simp) (fun z hz => by have := HGen.out z hz; omega) (one64 (by unfold I64H; omega))
          have HF2 := Lib.hid f2
          clear f2 hA2 hgood hA1 m1 eA rd g0 g1 e2
          go_wp2_with fail
          refine HF2.out.mono ?_
          rintro e y2 ⟨S2', m2, hor⟩
          rcases hor with ⟨hgood, rfl, hA2⟩ | ⟨hbad, _, _⟩
          case inr => exact absurd (goodF_one.2 hmem.out) hbad
          rw [freeR_one] at hA2
          dsimp only at hA2
          have HM3 := Lib.hid ((HM2.out.alloc (.cells #[.int .i64 (x : Int), .int .i64 0] 34)).move2 hA2 m2)
          have HP3 := Lib.hid ((HP2.out.alloc (.cells #[.int .i64 (x : Int), .int .i64 0] 34)).move2 m2)
          clear hgood hA2 m2 g2 g3
          go_wp2_with fail
          go_roundw
          case rel => exact ⟨k + 1, _, _, _, _, _, S1', S2', by go_num, by omega, HM3.out, HP3.out, HI1.out⟩
          case measure => simp [intOf]; omega
      · go_upto_region 14 with fail
        go_cut [91] (fun s91 wx => s91 = .bool false ∧ wr = wx)
        case first =>
          by_cases hkl : k < z1.length
          · have hkl2 : (k : Int) < (z1.length : Int) := by omega
            have hq0 : ¬ (0 : Int) < (q : Int) := fun h => hlt ⟨hkl, by omega⟩
            go_wp2_with fail
            go_meet
            case rel => exact ⟨congrArg Value.bool (decide_eq_false (by omega)), rfl⟩
          · have hkl2 : ¬ (k : Int) < (z1.length : Int) := by omega
            go_wp2_with fail
            go_meet
            case rel => exact ⟨rfl, rfl⟩
        case rest =>
          obtain ⟨rfl, rfl⟩ := hcut
          have hsz := HI.out.sz_
          have hfr := HI.out.fr_
          have hsum := HI.out.sum
          by_cases hc : y ≤ fr.length
          · have hc2 : ¬ sz < y := by omega
            have n1 := Lib.hid (C.many_ y HM.out.a1 hc)
            have hfr40 : fr.length ≤ 40 := by omega
            have htk40 : tk.length ≤ 40 := by omega
            clear hsz hfr hsum hlt
            go_wp2_with fail
            refine n1.out.mono ?_
            rintro e y1 ⟨v20, S1', rfl, r20, h1, m1, hv20⟩
            have HM1 := HM.out.move1 h1 m1
            have HP1 := HP.out.move1 m1
            have hlen := fun ty => HP1.mp.len Try.underlying52 ty
            have HM2 := Lib.hid (HM1.row (v := v20) (z := fr.take y) (by rw [List.length_take, Nat.min_eq_left hc]; exact r20.mono hbw.size) (fun g hg => ⟨hv20 g hg, fun hs => by have := (r20.lt g hg).1; have := (C.foot HM.out.a2 g hs).2; omega⟩))
            obtain ⟨A20, c20, rfl, hc20, _, _, _⟩ := r20.rd
            clear HM1 HP1 h1 m1 r20 hv20
            go_wp2_with fail
            go_loopw [22] (fun i wj => ∃ (j : Nat) (S2 : Nat → Prop), j ≤ y ∧ i = .int .i64 (j : Nat) ∧ TwoM C w x1.heap.size N1 x2.heap.size N2 q wj (.slice A20 y c20) (fr.take y) (fr.drop y) (tk ++ fr.take y) (fr.drop j) (tk ++ fr.take j) S1' S2) (fun i _ => y - (intOf i).toNat)
            case atStart => exact ⟨0, S2, Nat.zero_le _, rfl, by rw [List.drop_zero, List.take_zero, List.append_nil]; exact HM2.out⟩
            case round =>
              clear HM2 hlen
              obtain ⟨j, S2', hj, rfl, hM2⟩ := hrel
              have HM2 := Lib.hid hM2
              clear hM2
              by_cases hjy : j < y
              · have hjf : j < fr.length := by omega
                have hjy2 : (j : Int) < (y : Int) := by omega
                have hdj := dropH fr j hjf
                have htj : tk ++ fr.take (j + 1) = tk ++ fr.take j ++ [fr.getD j H2.no] := by rw [List.take_succ_eq_append_getElem hjf, List.append_assoc, List.getD_eq_getElem?_getD, List.getElem?_eq_getElem hjf]; rfl
                obtain ⟨A', c', eA, _, rd, _, _⟩ := HM2.out.rL.rd
                have hlt4 : (fr.take y).length = y := by rw [List.length_take, Nat.min_eq_left hc]
                obtain ⟨ae, hae, _, _, _⟩ := rd.at2 (k := j) (by rw [hlt4]; exact hjy)
                have e1 : A20 = A' := by injection eA
                subst e1
                subst hae
                have hgx : (fr.take y).getD j H2.no = fr.getD j H2.no := by rw [List.getD_eq_getElem?_getD, List.getD_eq_getElem?_getD, List.getElem?_take, if_pos hjy]
                obtain ⟨z, hz⟩ : ∃ z, fr.getD j H2.no = z := ⟨_, rfl⟩
                rw [hz] at hdj htj hgx
                have HGx := Lib.hid hgx
                have HT := Lib.hid htj
                have HL4 := Lib.hid hlt4
                have hA2 := HM2.out.a2
                rw [hdj] at hA2
                obtain ⟨za, zb⟩ := z
                have t1 : Calls Try.prog 10 #[.pointer (some ⟨N2, 0, none⟩)] wr fun e w' => ∃ S'', e = .returned (.tuple #[.agg #[.int .i64 za, .int .i64 zb], .int .i64 0]) ∧ C.At w' x2.heap.size N2 q (fr.drop (j + 1)) (tk ++ fr.take j ++ [(za, zb)]) S'' ∧ Moved S2' S'' wr w' := C.take_ hA2
                have HT1 := Lib.hid t1
                have qn := fun W => neq_hand za zb za zb W
                simp only [beq_self_eq_true, Bool.and_self, Bool.not_true] at qn
                clear t1 hz hdj htj hgx hlt4 hA2 eA rd
                go_wp2_with fail
                refine HT1.out.mono ?_
                rintro e y3 ⟨S3, rfl, h3, m3⟩
                rw [← HT.out] at h3
                have HM3 := Lib.hid ((HM2.out.move2 h3 m3).alloc (.cells #[.int .i64 za, .int .i64 zb] 34))
                have xb := Lib.hid (BoxH.new (w := y3) (S := NoB) (fun k hk => hk.elim) (za, zb))
                obtain ⟨xc0, xc1⟩ := xb.out.cells
                dsimp only at xc0 xc1
                obtain ⟨A', c', eA, _, rd, _, _⟩ := HM3.out.rL.rd
                have e1 : some ae = A' := by injection eA
                subst e1
                obtain ⟨af, e2, _, g0, g1⟩ := rd.at2 (k := j) (by rw [HL4.out]; exact hjy)
                obtain rfl : ae = af := by injection e2
                rw [HGx.out] at g0 g1
                dsimp only at g0 g1
                clear h3 m3 eA rd e2
                go_wp2_with fail
                go_quiet (fail)
                go_wp2_with fail
                go_roundw
                case rel => exact ⟨j + 1, S3, by omega, by go_num, HM3.out.below (below_drewH (Below.refl _ _) _)⟩
                case measure => simp [intOf]; omega
              · obtain rfl : j = y := by omega
                have hjy2 : ¬ (j : Int) < (j : Int) := by omega
                have l1 := C.len_ HM2.out.a1
                obtain ⟨L, hL⟩ : ∃ L, L = (tk ++ fr.take j).length := ⟨_, rfl⟩
                rw [← hL] at l1
                have HL1 := Lib.hid l1
                have HL := Lib.hid hL
                clear l1 hL
                go_wp2_with fail
                refine HL1.out.mono ?_
                rintro e y4 ⟨rfl, b4⟩
                have l2 := C.len_ (HM2.out.below b4).a2
                rw [← HL.out] at l2
                have HL2 := Lib.hid l2
                have hb4 := HM2.out.bel.trans (b4.mono HM2.out.bel.size)
                clear l2
                go_wp2_with fail
                refine HL2.out.mono ?_
                rintro e y5 ⟨rfl, b5⟩
                go_wp2_with fail
                go_ret
                exact ⟨rfl, hb4.trans (b5.mono hb4.size)⟩
          · have hc2 : (sz : Int) < (y : Int) := by omega
            have n1 := C.manyBad (y : Int) HM.out.a1 ⟨by omega, by omega⟩ (.inr (by omega))
            rw [if_neg (by omega)] at n1
            have HN := Lib.hid n1
            have hsq : (tk.length : Int) = (q : Int) - (sz : Int) := by omega
            have HSq := Lib.hid hsq
            have w1 : IntKind.i64.wrap ((q : Int) - (sz : Int)) = (q : Int) - (sz : Int) := IntWalk.i64_in _ (by omega)
            clear n1 hsz hfr hsum hlt hsq
            go_wp2_with fail
            refine HN.out.mono ?_
            rintro e y1 ⟨v20, rfl, r20, b20⟩
            obtain ⟨A20, c20, rfl, hc20, _, _, _⟩ := r20.rd
            have hlen := fun ty => (HP.out.below b20).mp.len Try.underlying52 ty
            have l1 := C.len_ (HM.out.below b20).a1
            rw [HSq.out] at l1
            have HL1 := Lib.hid l1
            have hb2 := hbw.trans (b20.mono hbw.size)
            clear l1 r20
            go_wp2_with fail
            refine HL1.out.mono ?_
            rintro e y2 ⟨rfl, b3⟩
            have hlen2 := fun ty => ((HP.out.below b20).below b3).mp.len Try.underlying52 ty
            clear hlen
            go_wp2_with fail
            go_ret
            exact ⟨rfl, hb2.trans (b3.mono hb2.size)⟩

set_option maxRecDepth 100000 in
theorem lifted (os : Os) (started : os.Started) (H : Type) (enc : TypeId × Value → H) :
    ReturnsInHanded {} Try.checked os 5 .any (Rows.arenaManySpec.pre6 enc Try.prog Try.f5 Rows.arenaManyRow.domain false) (Rows.arenaManySpec.post enc Try.prog Try.f5 false true false false) := by
  refine returnsInHanded_of_change (C := Try.checked) own started (by kernel_rfl) Try.func5
    (ChangeSpec.witness6 (enc := enc) (C := Try.checked) false ⟨#[], #[.int .i64 0, .slice none 0 0, .int .i64 0], []⟩ 8 (by kernel_rfl) (by kernel_rfl) (by kernel_rfl) (by kernel_rfl)) ?_
  intro W base args ds gs before hval0 hW hcnd _
  have hval : ∀ (j : Nat) t v, Try.f5.params[j]? = some t → args[j]? = some v → Value.okWide Try.prog W .any base t v := hval0
  have hW' := hW
  obtain ⟨p, q, hA0, hV, rfl, hfz, hnd⟩ := hW
  have hA : DataW.TrodAll enc Try.prog W 0 (fun _ => true) true Try.f5.params.toList args.toList ds p := hA0
  rw [Try.params5] at hA hval
  obtain ⟨v0, vs0, d0, ds0, p0, q0, hargs, rfl, rfl, h0, r0⟩ := trodAll_cons hA
  obtain ⟨v1, vs1, d1, ds1, p1, q1, rfl, rfl, rfl, h1, r1⟩ := trodAll_cons r0
  obtain ⟨v2, vs2, d2, ds2, p2, q2, rfl, rfl, rfl, h2, r2⟩ := trodAll_cons r1
  obtain ⟨rfl, rfl, rfl⟩ := trodAll_nil r2
  obtain rfl : args = #[v0, v1, v2] := by cases args; simp_all
  obtain ⟨rfl, rfl⟩ := trodVars_none hV
  obtain ⟨a0, rfl, rfl, rfl, w0⟩ := open_int Try.underlying3 (hval 0 3 v0 rfl rfl) h0
  obtain ⟨a1, l1, c1, rfl⟩ := okWide_slice Try.underlying50 (hval 1 50 v1 rfl rfl)
  have k1 := h1
  have lt1 : ∀ x ∈ p1, x.block < W.heap.size := by obtain ⟨m, hm⟩ := k1; exact DataW.trod_lt m _ _ _ hm
  obtain ⟨z1, w1⟩ : ∃ zs, SlcI W a1 l1 c1 zs := by
    obtain ⟨fuel, hf⟩ := h1
    rcases open_ints Try.underlying50 Try.underlying3 (by kernel_rfl) hf with ⟨hcs, _⟩ | ⟨x, l, c, zs, hcs, _, hl, hm, hz, _, hcell, hwz⟩
    · simp [Value.cells] at hcs
      obtain ⟨rfl, rfl, rfl⟩ := hcs
      exact ⟨[], SlcI.none_ W⟩
    · simp [Value.cells] at hcs
      obtain ⟨rfl, rfl, rfl⟩ := hcs
      exact ⟨_, SlcI.some_ hl (by simpa using hz) hcell hwz⟩
  obtain ⟨a2, rfl, rfl, rfl, w2⟩ := open_int Try.underlying3 (hval 2 3 v2 rfl rfl) h2
  clear hA0 hval0
  refine (walk a0 a1 l1 c1 z1 a2 w0 w2 W w1).mono fun e W' ⟨he, bel⟩ => ?_
  subst he
  exact ⟨_, rfl, _, _, _, [], _, [], hW', trodAll_mk1 (shut_bool Try.underlying4 _), (trodAll_cons_mk (shut_int Try.underlying3 w0) (trodAll_cons_mk (Below.trod laidOut (by kernel_rfl) (of_decide_eq_true (by kernel_rfl)) k1 bel lt1) (trodAll_cons_mk (shut_int Try.underlying3 w2) trodAll_mk0))), rfl, bel.frame _, fun h => by cases h⟩

theorem over : Rows.arenaManyRow.holds Try.pinned (OpenSpec.ofChange Rows.arenaManySpec) :=
  OpenClaim.holds_of_wide 5 Try.f5 rfl rfl rfl rfl rfl rfl rfl ⟨rfl, rfl, rfl, rfl, rfl⟩ rfl rfl rfl rfl rfl (by kernel_rfl) Try.func5 (by kernel_rfl)
    (of_decide_eq_true (by kernel_rfl)) (by unfold Func.isWrapper; first | (rw [if_pos (by decide +kernel)]; kernel_rfl) | (rw [if_neg (by decide +kernel)]; exact ⟨rfl, rfl⟩))
    (fun os started H enc _ => lifted os started H enc)
theorem proved : Rows.ArenaManySaid := over
end Go.Proofs.Ytomcpjgklecopaa.arenaMany
