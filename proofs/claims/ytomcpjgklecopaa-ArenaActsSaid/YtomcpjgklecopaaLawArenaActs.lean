/- Whatever is taken and freed, each answer is the document's (P5.1, P5.2). -/
import Derived.Test.YtomcpjgklecopaaOpenA
import Derived.Test.YtomcpjgklecopaaArenaIs
import Derived.Test.YtomcpjgklecopaaArenaAwake
import Derived.Test.YtomcpjgklecopaaArenaPair
import Derived.Test.YtomcpjgklecopaaPass
namespace Go.Proofs.Ytomcpjgklecopaa.arenaActs
open Go.ChangeShapes Go.WideShapes Go.ChangeAt Go.RowKit
open Go.ChangeMaps (open_string shut_string)
set_option linter.unusedVariables false

set_option maxHeartbeats 40000000 in
set_option maxRecDepth 100000 in
theorem walk (a0 : Int) (a1 : Option Addr) (l1 c1 : Nat) (z1 : List ActZ) (w0 : (Lit.int .i64 a0).wf = true) (w : World) (w1 : SlcA w a1 l1 c1 z1) :
    Calls Try.prog 3 #[.int .i64 a0, .slice a1 l1 c1] w fun e w' => e = .returned (.bool true) ∧ Below w.heap.size w w' := by
  have he := wf_i64 w0
  obtain ⟨rfl, hlc, hrd⟩ := w1
  have HR := Lib.hid hrd
  obtain ⟨C⟩ := arSpec_is
  have hI0 := he.1
  have hI1 := he.2
  clear w0 hrd
  go_enter Try.func3, Try.ntmps3
  go_wp2_with fail
  refine (awake_any C _).mono ?_
  rintro e x1 ⟨rfl, b1⟩
  by_cases hbig : 60 < z1.length
  · have hbig2 : (60 : Int) < (z1.length : Int) := by omega
    go_wp2_with fail
    refine (awake_any C _).mono ?_
    rintro e x2 ⟨rfl, b2⟩
    go_wp2_with fail
    go_ret
    exact ⟨rfl, b1.trans (b2.mono b1.size)⟩
  · have hbig2 : ¬ ((60 : Int) < (z1.length : Int)) := by omega
    have hl1 : z1.length ≤ 60 := by omega
    clear hbig
    by_cases hbad : a0 < 0 ∨ 1048576 < a0
    · have n1 := Lib.hid (C.newBad a0 x1 hbad)
      rcases Int.lt_or_le a0 0 with h0 | h0
      all_goals
        go_wp2_with fail
        refine n1.out.mono ?_
        rintro e x2 ⟨rfl, b2⟩
        go_wp2_with fail
        go_ret
        exact ⟨rfl, b1.trans (b2.mono b1.size)⟩
    · have h0 : ¬ a0 < 0 := by omega
      have h1 : ¬ 1048576 < a0 := by omega
      obtain ⟨n, hn⟩ : ∃ n : Nat, a0.tmod 40 = (n : Int) := ⟨(a0.tmod 40).toNat, by have := Int.tmod_nonneg 40 (show 0 ≤ a0 by omega); omega⟩
      have hn40 : n < 40 := by have := Int.tmod_lt_of_pos a0 (show (0 : Int) < 40 by decide); omega
      have HN1 := Lib.hid (C.new_ n x1 (by omega))
      go_wp2_with fail
      refine HN1.out.mono ?_
      rintro e x2 ⟨N1, S1, rfl, a1, b2⟩
      have B2 := b1.trans (b2.mono b1.size)
      have HN2 := Lib.hid (refNew_any n x2 (by omega))
      go_wp2_with fail
      refine HN2.out.mono ?_
      rintro e x3 ⟨vF, rfl, r3, b3⟩
      have M3 : PairM C w x1.heap.size N1 n x3 x2.heap.size x2.heap.size vF (.slice none 0 0) (slotsR n) [] (slotsR n) [] S1 :=
        ⟨C.below a1 b3, r3, fun k hk hf => by have := (C.foot a1 k hk).2; have := (r3.foot_lt k hf).1; omega, fun k hk => hk.elim (fun h => Nat.le_trans b1.size (C.foot a1 k h).1) (fun h => Nat.le_trans B2.size (r3.foot_lt k h).1), B2.trans (b3.mono B2.size)⟩
      have HM3 := Lib.hid M3
      clear M3 a1 r3 b2 b3 B2 HN1 HN2 hbig2
      go_wp2_with fail
      go_loopw [11] (fun i wr => ∃ (k : Nat) (vF vT : Value) (fr tk : List H2) (S : Nat → Prop) (m : Nat), i = .int .i64 (k : Nat) ∧ k ≤ z1.length ∧ PairM C w x1.heap.size N1 n wr x2.heap.size x2.heap.size vF vT fr tk fr tk S ∧ ActsI n m fr tk ∧ m ≤ 100 * k) (fun i _ => z1.length - (intOf i).toNat)
      case atStart => exact ⟨0, vF, _, slotsR n, [], S1, 0, rfl, Nat.zero_le _, HM3.out, ActsI.start n, Nat.le_refl _⟩
      case round =>
        clear HM3
        obtain ⟨k, vF, vT, fr, tk, S, m, rfl, hk, hM, hI, hm⟩ := hrel
        have HM := Lib.hid hM
        have HI := Lib.hid hI
        have hbw := hM.bel
        have hcnt := hI.count
        clear hM hI
        by_cases hlt : k < z1.length
        · have hlt2 : (k : Int) < (z1.length : Int) := by omega
          obtain ⟨ad, rfl, hblk, c0, c1, c2, hok⟩ := (HR.out.below (Nat.le_refl _) hbw).at3 hlt
          obtain ⟨q0, q1, q2, q3, q4, q5, hok0⟩ := HR.out.at3 hlt
          clear q1 q2 q3 q4 q5
          obtain ⟨z, hz⟩ : ∃ z, z1.getD k ActZ.no = z := ⟨_, rfl⟩
          rw [hz] at hok0
          rw [hz] at c0 c1 c2 hok
          obtain ⟨kd, nu, ha, hc, hs⟩ := z
          dsimp only at c0 c1 c2
          have HOk := Lib.hid hok0
          clear hz hok hok0 hblk
          by_cases h30 : 30 < hs.length
          · have h31 : (30 : Int) < (hs.length : Int) := by omega
            go_wp2_with fail
            go_ret
            exact ⟨rfl, hbw.alloc hbw.size _⟩
          · have h31 : ¬ (30 : Int) < (hs.length : Int) := by omega
            have M1 := Lib.hid (HM.out.alloc (.cells #[.int .i64 kd, .int .i64 nu, .slice ha hs.length hc] 32))
            have X1 := Lib.hid (BoxA.new ⟨kd, nu, ha, hc, hs⟩ HM.out.foot)
            obtain ⟨d0, d1, d2⟩ := X1.out.cells
            dsimp only at d0 d1 d2
            have hs30 : hs.length ≤ 30 := by omega
            have hsz1 : (wr.alloc (.cells #[.int .i64 kd, .int .i64 nu, .slice ha hs.length hc] 32)).heap.size = wr.heap.size + 1 := by simp
            go_upto_block 2 with fail
            generalize wr.alloc (.cells #[.int .i64 kd, .int .i64 nu, .slice ha hs.length hc] 32) = W1 at *
            generalize wr.heap.size = bx at *
            go_cut [13] (fun ok wx => ok = .bool true ∧ ∃ (vF vT : Value) (fr tk : List H2) (S : Nat → Prop) (m' : Nat), PairM C w x1.heap.size N1 n wx x2.heap.size x2.heap.size vF vT fr tk fr tk S ∧ ActsI n m' fr tk ∧ m' ≤ 100 * (k + 1) ∧ BoxA wx bx ⟨kd, nu, ha, hc, hs⟩ S (footA x2.heap.size vF vT))
            case first =>
              by_cases k0 : kd = 0
              · subst k0
                as_aux_lemma =>
                  cases fr with
                  | nil =>
                    have t1 : Calls Try.prog 10 #[.pointer (some ⟨N1, 0, none⟩)] W1 fun e w' => ∃ S'', e = .returned (.tuple #[.agg #[.int .i64 0, .int .i64 0], .int .i64 50]) ∧ C.At w' x1.heap.size N1 n [] (tk ++ []) S'' ∧ Moved S S'' W1 w' := C.take_ M1.out.a
                    rw [List.append_nil] at t1
                    have HT1 := Lib.hid t1
                    clear t1
                    go_wp2_with fail
                    refine HT1.out.mono ?_
                    rintro e y1 ⟨S', rfl, hA1, m1⟩
                    have M2 := Lib.hid ((M1.out.moveA hA1 m1).alloc (.cells #[.int .i64 0, .int .i64 0] 34))
                    have X2 := Lib.hid ((X1.out.moveA m1).below ((Below.refl _ _).alloc (Nat.le_refl _) (.cells #[.int .i64 0, .int .i64 0] 34)))
                    have xb := BoxH.new (w := y1) (S := NoB) (fun k hk => hk.elim) (0, 0)
                    obtain ⟨xc0, xc1⟩ := xb.cells
                    dsimp only at xc0 xc1
                    have r1 := refManyBad_any 1 _ _ _ _ _ _ _ M2.out.r (.inr (by decide))
                    rw [if_neg (by decide)] at r1
                    have HR1 := Lib.hid r1
                    have qe := fun W => eq_hand 0 0 0 0 W
                    simp only [beq_self_eq_true, Bool.and_self] at qe
                    clear r1 xb hA1 m1
                    go_wp2_with fail
                    refine HR1.out.mono ?_
                    rintro e y2 ⟨rfl, rfl⟩
                    go_wp2_with fail
                    go_quiet (fail)
                    go_wp2_with fail
                    go_meet
                    case rel => exact ⟨rfl, vF, vT, [], tk, S', m, M2.out.below (below_drewH (Below.refl _ _) _), HI.out, by omega, X2.out.below (below_drewH (Below.refl _ _) _)⟩
                  | cons z fr' =>
                    obtain ⟨za, zb⟩ := z
                    have t1 : Calls Try.prog 10 #[.pointer (some ⟨N1, 0, none⟩)] W1 fun e w' => ∃ S'', e = .returned (.tuple #[.agg #[.int .i64 za, .int .i64 zb], .int .i64 0]) ∧ C.At w' x1.heap.size N1 n fr' (tk ++ [(za, zb)]) S'' ∧ Moved S S'' W1 w' := C.take_ M1.out.a
                    have HT1 := Lib.hid t1
                    clear t1
                    go_wp2_with fail
                    refine HT1.out.mono ?_
                    rintro e y1 ⟨S', rfl, hA1, m1⟩
                    have M2 := M1.out.moveA hA1 m1
                    have X2 := Lib.hid ((X1.out.moveA m1).below ((Below.refl _ _).alloc (Nat.le_refl _) (.cells #[.int .i64 za, .int .i64 zb] 34)))
                    have xb := Lib.hid (BoxH.new (w := y1) (S := footA x2.heap.size vF vT) (fun k hk => (M2.r.foot_lt k hk).2) (za, zb))
                    have M3 := Lib.hid (M2.alloc (.cells #[.int .i64 za, .int .i64 zb] 34))
                    have hl := HI.out.count
                    rw [List.length_cons] at hl
                    have r1 := refMany_any 1 _ _ _ _ _ _ _ M3.out.r (by rw [List.length_cons]; omega) (by omega) 1 rfl (by simp)
                    have HR1 := Lib.hid r1
                    have qe := fun W => eq_hand za zb za zb W
                    simp only [beq_self_eq_true, Bool.and_self] at qe
                    clear r1 hA1 m1 M2 hl
                    go_wp2_with fail
                    refine HR1.out.mono ?_
                    rintro e y2 ⟨v, vF', vT', rfl, r16, rA, on, hf, nv⟩
                    have M4 := Lib.hid (M3.out.moveR rA on hf)
                    have X4 := Lib.hid (X2.out.moveR on hf)
                    obtain ⟨xc0, xc1⟩ := (xb.out.moved ⟨on, hf⟩).cells
                    dsimp only at xc0 xc1
                    obtain ⟨A16, c16, rfl, hc16, rd, _, _⟩ := r16.rd
                    obtain ⟨ae, rfl, _, g0, g1⟩ := rd.at2 (k := 0) (by simp)
                    rw [show (List.take 1 ((za, zb) :: fr')).getD 0 H2.no = (za, zb) from rfl, Nat.zero_mul] at g0 g1
                    dsimp only at g0 g1
                    have g2 := g0
                    have g3 := g1
                    rw [show ae.add 0 = ae from rfl] at g2 g3
                    clear r16 rA on hf nv rd
                    go_wp2_with fail
                    go_quiet (fail)
                    go_wp2_with fail
                    go_meet
                    case rel => exact ⟨rfl, vF', vT', fr', tk ++ [(za, zb)], S', m, M4.out.below (below_drewH (Below.refl _ _) _), OnceI.take HI.out, by omega, X4.out.below (below_drewH (Below.refl _ _) _)⟩
              · by_cases k1 : kd = 1
                · subst k1
                  as_aux_lemma =>
                    by_cases hg : 0 ≤ nu ∧ nu ≤ (fr.length : Int)
                    · obtain ⟨mm, rfl⟩ : ∃ mm : Nat, nu = (mm : Int) := ⟨nu.toNat, by omega⟩
                      have hmf : mm ≤ fr.length := by omega
                      have HN1 := Lib.hid (C.many_ mm M1.out.a hmf)
                      clear hg
                      go_wp2_with fail
                      refine HN1.out.mono ?_
                      rintro e y1 ⟨v18, S', rfl, r18, hA1, m1, hv18⟩
                      have M2 := Lib.hid (M1.out.moveA hA1 m1)
                      have X2 := Lib.hid (X1.out.moveA m1)
                      obtain ⟨e0, e1, e2⟩ := X2.out.cells
                      dsimp only at e0 e1 e2
                      have HR1 := Lib.hid (refMany_any (mm : Int) _ _ _ _ _ _ _ M2.out.r (by omega) (by omega) mm rfl hmf)
                      obtain ⟨A18, c18, rfl, _, _, _, _⟩ := r18.rd
                      clear hA1 m1 hv18 d0 d1 d2
                      go_wp2_with fail
                      refine HR1.out.mono ?_
                      rintro e y2 ⟨v20, vF', vT', rfl, r20, rA, on, hf, nv⟩
                      have r18 := r18.only on (fun g hg hfg => by have := (r18.lt g hg).1; have := (M1.out.r.foot_lt g hfg).2; omega)
                      have M4 := Lib.hid (M2.out.moveR rA on hf)
                      have X4 := Lib.hid (X2.out.moveR on hf)
                      obtain ⟨A', c', eA, hc18, rd18, _, _⟩ := r18.rd
                      have q1 : A18 = A' := by injection eA
                      have q2 : c18 = c' := by injection eA
                      subst q1
                      subst q2
                      obtain ⟨A20, c20, rfl, hc20, rd20, _, _⟩ := r20.rd
                      have hlm : (fr.take mm).length = mm := by rw [List.length_take, Nat.min_eq_left hmf]
                      have cs := sameL_any A18 A20 c18 c20 (fr.take mm) (fr.take mm) y2 rd18 rd20 hc18 hc20 (by omega) (by omega)
                      rw [decide_eq_true rfl, hlm] at cs
                      have HS := Lib.hid cs
                      clear cs r18 r20 rd18 rd20 rA on hf nv eA hlm hc18 hc20 e0 e1 e2
                      go_wp2_with fail
                      refine HS.out.mono ?_
                      rintro e y3 ⟨rfl, b3⟩
                      go_wp2_with fail
                      go_meet
                      case rel => exact ⟨rfl, vF', vT', fr.drop mm, tk ++ fr.take mm, S', m, M4.out.below b3, ActsI.many mm HI.out, by omega, X4.out.below b3⟩
                    · have hb : nu < 0 ∨ (fr.length : Int) < nu := by omega
                      have n1 := C.manyBad nu M1.out.a ⟨HOk.out.2.1.1, HOk.out.2.1.2⟩ hb
                      have r1 := fun W (hr : RefA W x2.heap.size x2.heap.size vF vT fr tk) => refManyBad_any nu W _ _ _ _ _ _ hr hb
                      obtain ⟨E, hE⟩ : ∃ E : Int, (if nu < 0 then 2 else 50) = E := ⟨_, rfl⟩
                      rw [hE] at n1
                      simp only [hE] at r1
                      have HN1 := Lib.hid n1
                      have HR1 := Lib.hid r1
                      clear n1 r1 hE hg hb
                      go_wp2_with fail
                      refine HN1.out.mono ?_
                      rintro e y1 ⟨v18, rfl, r18, b18⟩
                      have M2 := Lib.hid (M1.out.below b18)
                      have X2 := Lib.hid (X1.out.below b18)
                      obtain ⟨e0, e1, e2⟩ := X2.out.cells
                      dsimp only at e0 e1 e2
                      obtain ⟨A18, c18, rfl, hc18, rd18, _, _⟩ := r18.rd
                      have HR2 := Lib.hid (HR1.out y1 M2.out.r)
                      have cs : Calls Try.prog 13 #[.slice A18 0 c18, .slice none 0 0] y1 _ := sameL_any A18 none c18 0 [] [] y1 rd18 (RdH.nothing _) (Nat.zero_le _) (Nat.zero_le _) (Nat.zero_le _) (Nat.zero_le _)
                      rw [decide_eq_true rfl] at cs
                      have HS := Lib.hid cs
                      clear cs r18 rd18 b18 d0 d1 d2 hc18
                      go_wp2_with fail
                      refine HR2.out.mono ?_
                      rintro e y2 ⟨rfl, rfl⟩
                      go_wp2_with fail
                      refine HS.out.mono ?_
                      rintro e y3 ⟨rfl, b3⟩
                      go_wp2_with fail
                      go_meet
                      case rel => exact ⟨rfl, vF, vT, fr, tk, S, m, M2.out.below b3, HI.out, by omega, X2.out.below b3⟩
                · by_cases k2 : kd = 2
                  · subst k2
                    as_aux_lemma =>
                      have HRd := Lib.hid HOk.out.2.2.2.2.1
                      have hgen : ∀ z ∈ tk, 0 ≤ z.2 ∧ z.2 ≤ 1000000000 := fun z hz => by have := HI.out.gens z (List.mem_append_right _ hz); omega
                      have HGen := Lib.hid hgen
                      clear hgen
                      have hblk : hs ≠ [] → ∀ ad, ha = some ad → ad.block < w.heap.size := fun hne ad e => by
                        obtain ⟨ae, e2, hlt, _⟩ := HRd.out 0 (List.length_pos_iff.2 hne)
                        rw [e] at e2
                        injection e2 with e2
                        rw [e2]
                        exact hlt
                      have HBlk := Lib.hid hblk
                      have hbd : Below W1.heap.size W1 W1.drew := (Below.refl _ _).drew
                      have M1d := Lib.hid (M1.out.below hbd)
                      have X1d := Lib.hid (X1.out.below hbd)
                      have hcc : hs.length ≤ hc := HOk.out.2.2.2.1
                      clear hblk hbd
                      go_wp2_with fail
                      by_cases good : goodF tk hs
                      · have f1 := C.freeGood ha hc hs M1d.out.a (HRd.out.below (Nat.le_refl _) M1d.out.bel) (fun hne ad e h => by have := HBlk.out hne ad e; have := M1d.out.lo _ (.inl h); omega) hcc (by omega) HGen.out (fun z hz => (HOk.out.2.2.2.2.2 z hz).1) good
                        have HF1 := Lib.hid f1
                        clear f1
                        refine wp_region_held_drew (S := (fun w' => w'.cell? { block := bx, off := 2 } = some (.slice ha hs.length hc))) (by kernel_rfl) d2 (fun hHeld => ?_)
                        refine wpAnyH_take (i := 0) (v := ?_) (by simp only [List.getElem?_toArray, List.getElem?_cons_zero]; rfl) (by kernel_rfl) (by kernel_rfl) (by kernel_rfl) (by exact fun _ _ _ h => h) (Or.inl ⟨by rfl, ?_⟩) (by assumption) ?_
                        rotate_left
                        · intro w hSw; (try dsimp only at hSw); go_simp; (try with_reducible rfl)
                        try simp only [Act.put, List.setIfInBounds_toArray, List.set_cons_zero, List.set_cons_succ]
                        refine wpAnyH_take (i := 1) (v := ?_) (by simp only [List.getElem?_toArray, List.getElem?_cons_zero, List.getElem?_cons_succ]; rfl) (by kernel_rfl) (by kernel_rfl) (by kernel_rfl) (by exact fun _ _ _ h => h) (Or.inl ⟨by rfl, ?_⟩) (by assumption) ?_
                        rotate_left
                        · intro w hSw; (try dsimp only at hSw); go_simp; (try with_reducible rfl)
                        try simp only [Act.put, List.setIfInBounds_toArray, List.set_cons_zero, List.set_cons_succ]
                        refine wpAnyH_take (i := 2) (v := ?_) (by simp only [List.getElem?_toArray, List.getElem?_cons_zero, List.getElem?_cons_succ]; rfl) (by kernel_rfl) (by kernel_rfl) (by kernel_rfl) (by exact fun _ _ _ h => h) (Or.inl ⟨by rfl, ?_⟩) (by assumption) ?_
                        rotate_left
                        · intro w hSw; (try dsimp only at hSw); go_simp; (try with_reducible rfl)
                        try simp only [Act.put, List.setIfInBounds_toArray, List.set_cons_zero, List.set_cons_succ]
                        refine wpAnyH_take (i := 4) (v := ?_) (by simp only [List.getElem?_toArray, List.getElem?_cons_zero, List.getElem?_cons_succ]; rfl) (by kernel_rfl) (by kernel_rfl) (by kernel_rfl) (by exact fun _ _ _ h => h) (Or.inl ⟨by rfl, ?_⟩) (by assumption) ?_
                        rotate_left
                        · intro w hSw; (try dsimp only at hSw); go_simp; (try with_reducible rfl)
                        try simp only [Act.put, List.setIfInBounds_toArray, List.set_cons_zero, List.set_cons_succ]
                        refine wpAnyH_take (i := 5) (v := ?_) (by simp only [List.getElem?_toArray, List.getElem?_cons_zero, List.getElem?_cons_succ]; rfl) (by kernel_rfl) (by kernel_rfl) (by kernel_rfl) (by exact fun _ _ _ h => h) (Or.inl ⟨by rfl, ?_⟩) (by assumption) ?_
                        rotate_left
                        · intro w hSw; (try dsimp only at hSw); go_simp; (try with_reducible rfl)
                        try simp only [Act.put, List.setIfInBounds_toArray, List.set_cons_zero, List.set_cons_succ]
                        refine wpAnyH_take (i := 6) (v := ?_) (by simp only [List.getElem?_toArray, List.getElem?_cons_zero, List.getElem?_cons_succ]; rfl) (by kernel_rfl) (by kernel_rfl) (by kernel_rfl) (by exact fun _ _ _ h => h) (Or.inl ⟨by rfl, ?_⟩) (by assumption) ?_
                        rotate_left
                        · intro w hSw; (try dsimp only at hSw); go_simp; (try with_reducible rfl)
                        try simp only [Act.put, List.setIfInBounds_toArray, List.set_cons_zero, List.set_cons_succ]
                        refine wpAnyH_ready (rs := [3]) (by kernel_rfl) (by simp) ?_
                        refine AllReadyH.cons (by simp only [List.getElem?_toArray, List.getElem?_cons_zero, List.getElem?_cons_succ]; rfl) (fun K hK => ?_) AllReadyH.nil
                        go_simp
                        refine HF1.out.mono ?_
                        rintro e y1 ⟨S', rfl, hA1, m1⟩
                        have M2 := Lib.hid (M1d.out.moveA hA1 m1)
                        have X2 := Lib.hid (X1d.out.moveA m1)
                        clear hA1 m1
                        go_wp2_with fail
                        refine hK.out _ _ (X2.out.cells.2.2) (fun hHeld => ?_)
                        clear hK K
                        try simp only [Act.put, List.setIfInBounds_toArray, List.set_cons_zero, List.set_cons_succ]
                        have HF2 := Lib.hid (refFreeGood ha hc hs _ _ _ _ _ _ _ M2.out.r (HRd.out.below (Nat.le_refl _) M2.out.bel) (fun hne ad e h => by have := HBlk.out hne ad e; have := M2.out.lo x2.heap.size (.inr (.inl rfl)); omega) hcc (by omega) (by omega) (by omega) HGen.out good)
                        refine wpAnyH_ready (rs := [7]) (by kernel_rfl) (by simp) ?_
                        refine AllReadyH.cons (by simp only [List.getElem?_toArray, List.getElem?_cons_zero, List.getElem?_cons_succ]; rfl) (fun K hK => ?_) AllReadyH.nil
                        go_simp
                        refine HF2.out.mono ?_
                        rintro e y2 ⟨vF', vT', rfl, rA, hf, on⟩
                        have M3 := Lib.hid (M2.out.moveR rA on hf)
                        have X3 := Lib.hid (X2.out.moveR on hf)
                        clear rA on hf
                        go_wp2_with fail
                        refine hK.out _ _ (X3.out.cells.2.2) (fun hHeld => ?_)
                        clear hK K
                        try simp only [Act.put, List.setIfInBounds_toArray, List.set_cons_zero, List.set_cons_succ]
                        refine wpAnyH_take (i := 8) (v := ?_) (by simp only [List.getElem?_toArray, List.getElem?_cons_zero, List.getElem?_cons_succ]; rfl) (by kernel_rfl) (by kernel_rfl) (by kernel_rfl) (by exact fun _ _ _ h => h) (Or.inl ⟨by rfl, ?_⟩) (by assumption) ?_
                        rotate_left
                        · intro w hSw; (try dsimp only at hSw); go_simp; (try with_reducible rfl)
                        try simp only [Act.put, List.setIfInBounds_toArray, List.set_cons_zero, List.set_cons_succ]
                        refine wpAnyH_take (i := 9) (v := ?_) (by simp only [List.getElem?_toArray, List.getElem?_cons_zero, List.getElem?_cons_succ]; rfl) (by kernel_rfl) (by kernel_rfl) (by kernel_rfl) (by exact fun _ _ _ h => h) (Or.inl ⟨by rfl, ?_⟩) (by assumption) ?_
                        rotate_left
                        · intro w hSw; (try dsimp only at hSw); go_simp; (try with_reducible rfl)
                        try simp only [Act.put, List.setIfInBounds_toArray, List.set_cons_zero, List.set_cons_succ]
                        refine wpAnyH_done (by kernel_rfl) ?_ _
                        go_wp2_with fail
                        go_meet
                        case rel => exact ⟨rfl, vF', vT', _, _, S', m + hs.length, M3.out, ActsI.free hs HI.out good, by omega, X3.out⟩
                      · have f1 := C.freeBad ha hc hs M1d.out.a (HRd.out.below (Nat.le_refl _) M1d.out.bel) (fun hne ad e h => by have := HBlk.out hne ad e; have := M1d.out.lo _ (.inl h); omega) hcc (by omega) HGen.out (fun z hz => (HOk.out.2.2.2.2.2 z hz).1) good
                        have HF1 := Lib.hid f1
                        clear f1
                        refine wp_region_held_drew (S := (fun w' => w'.cell? { block := bx, off := 2 } = some (.slice ha hs.length hc))) (by kernel_rfl) d2 (fun hHeld => ?_)
                        refine wpAnyH_take (i := 0) (v := ?_) (by simp only [List.getElem?_toArray, List.getElem?_cons_zero]; rfl) (by kernel_rfl) (by kernel_rfl) (by kernel_rfl) (by exact fun _ _ _ h => h) (Or.inl ⟨by rfl, ?_⟩) (by assumption) ?_
                        rotate_left
                        · intro w hSw; (try dsimp only at hSw); go_simp; (try with_reducible rfl)
                        try simp only [Act.put, List.setIfInBounds_toArray, List.set_cons_zero, List.set_cons_succ]
                        refine wpAnyH_take (i := 1) (v := ?_) (by simp only [List.getElem?_toArray, List.getElem?_cons_zero, List.getElem?_cons_succ]; rfl) (by kernel_rfl) (by kernel_rfl) (by kernel_rfl) (by exact fun _ _ _ h => h) (Or.inl ⟨by rfl, ?_⟩) (by assumption) ?_
                        rotate_left
                        · intro w hSw; (try dsimp only at hSw); go_simp; (try with_reducible rfl)
                        try simp only [Act.put, List.setIfInBounds_toArray, List.set_cons_zero, List.set_cons_succ]
                        refine wpAnyH_take (i := 2) (v := ?_) (by simp only [List.getElem?_toArray, List.getElem?_cons_zero, List.getElem?_cons_succ]; rfl) (by kernel_rfl) (by kernel_rfl) (by kernel_rfl) (by exact fun _ _ _ h => h) (Or.inl ⟨by rfl, ?_⟩) (by assumption) ?_
                        rotate_left
                        · intro w hSw; (try dsimp only at hSw); go_simp; (try with_reducible rfl)
                        try simp only [Act.put, List.setIfInBounds_toArray, List.set_cons_zero, List.set_cons_succ]
                        refine wpAnyH_take (i := 4) (v := ?_) (by simp only [List.getElem?_toArray, List.getElem?_cons_zero, List.getElem?_cons_succ]; rfl) (by kernel_rfl) (by kernel_rfl) (by kernel_rfl) (by exact fun _ _ _ h => h) (Or.inl ⟨by rfl, ?_⟩) (by assumption) ?_
                        rotate_left
                        · intro w hSw; (try dsimp only at hSw); go_simp; (try with_reducible rfl)
                        try simp only [Act.put, List.setIfInBounds_toArray, List.set_cons_zero, List.set_cons_succ]
                        refine wpAnyH_take (i := 5) (v := ?_) (by simp only [List.getElem?_toArray, List.getElem?_cons_zero, List.getElem?_cons_succ]; rfl) (by kernel_rfl) (by kernel_rfl) (by kernel_rfl) (by exact fun _ _ _ h => h) (Or.inl ⟨by rfl, ?_⟩) (by assumption) ?_
                        rotate_left
                        · intro w hSw; (try dsimp only at hSw); go_simp; (try with_reducible rfl)
                        try simp only [Act.put, List.setIfInBounds_toArray, List.set_cons_zero, List.set_cons_succ]
                        refine wpAnyH_take (i := 6) (v := ?_) (by simp only [List.getElem?_toArray, List.getElem?_cons_zero, List.getElem?_cons_succ]; rfl) (by kernel_rfl) (by kernel_rfl) (by kernel_rfl) (by exact fun _ _ _ h => h) (Or.inl ⟨by rfl, ?_⟩) (by assumption) ?_
                        rotate_left
                        · intro w hSw; (try dsimp only at hSw); go_simp; (try with_reducible rfl)
                        try simp only [Act.put, List.setIfInBounds_toArray, List.set_cons_zero, List.set_cons_succ]
                        refine wpAnyH_ready (rs := [3]) (by kernel_rfl) (by simp) ?_
                        refine AllReadyH.cons (by simp only [List.getElem?_toArray, List.getElem?_cons_zero, List.getElem?_cons_succ]; rfl) (fun K hK => ?_) AllReadyH.nil
                        go_simp
                        refine HF1.out.mono ?_
                        rintro e y1 ⟨S', rfl, hA1, m1⟩
                        have M2 := Lib.hid (M1d.out.moveA hA1 m1)
                        have X2 := Lib.hid (X1d.out.moveA m1)
                        clear hA1 m1
                        go_wp2_with fail
                        refine hK.out _ _ (X2.out.cells.2.2) (fun hHeld => ?_)
                        clear hK K
                        try simp only [Act.put, List.setIfInBounds_toArray, List.set_cons_zero, List.set_cons_succ]
                        have HF2 := Lib.hid (refFreeBad ha hc hs _ _ _ _ _ _ _ M2.out.r (HRd.out.below (Nat.le_refl _) M2.out.bel) (fun hne ad e h => by have := HBlk.out hne ad e; have := M2.out.lo x2.heap.size (.inr (.inl rfl)); omega) hcc (by omega) (by omega) (by omega) HGen.out good)
                        refine wpAnyH_ready (rs := [7]) (by kernel_rfl) (by simp) ?_
                        refine AllReadyH.cons (by simp only [List.getElem?_toArray, List.getElem?_cons_zero, List.getElem?_cons_succ]; rfl) (fun K hK => ?_) AllReadyH.nil
                        go_simp
                        refine HF2.out.mono ?_
                        rintro e y2 ⟨rfl, b2⟩
                        have M3 := Lib.hid (M2.out.below b2)
                        have X3 := Lib.hid (X2.out.below b2)
                        clear b2
                        go_wp2_with fail
                        refine hK.out _ _ (X3.out.cells.2.2) (fun hHeld => ?_)
                        clear hK K
                        try simp only [Act.put, List.setIfInBounds_toArray, List.set_cons_zero, List.set_cons_succ]
                        refine wpAnyH_take (i := 8) (v := ?_) (by simp only [List.getElem?_toArray, List.getElem?_cons_zero, List.getElem?_cons_succ]; rfl) (by kernel_rfl) (by kernel_rfl) (by kernel_rfl) (by exact fun _ _ _ h => h) (Or.inl ⟨by rfl, ?_⟩) (by assumption) ?_
                        rotate_left
                        · intro w hSw; (try dsimp only at hSw); go_simp; (try with_reducible rfl)
                        try simp only [Act.put, List.setIfInBounds_toArray, List.set_cons_zero, List.set_cons_succ]
                        refine wpAnyH_take (i := 9) (v := ?_) (by simp only [List.getElem?_toArray, List.getElem?_cons_zero, List.getElem?_cons_succ]; rfl) (by kernel_rfl) (by kernel_rfl) (by kernel_rfl) (by exact fun _ _ _ h => h) (Or.inl ⟨by rfl, ?_⟩) (by assumption) ?_
                        rotate_left
                        · intro w hSw; (try dsimp only at hSw); go_simp; (try with_reducible rfl)
                        try simp only [Act.put, List.setIfInBounds_toArray, List.set_cons_zero, List.set_cons_succ]
                        refine wpAnyH_done (by kernel_rfl) ?_ _
                        go_wp2_with fail
                        go_meet
                        case rel => exact ⟨rfl, vF, vT, fr, tk, S', m, M3.out, HI.out, by omega, X3.out⟩
                  · by_cases k3 : kd = 3
                    · subst k3
                      as_aux_lemma =>
                        have HRd := Lib.hid HOk.out.2.2.2.2.1
                        have hgen : ∀ z ∈ tk, 0 ≤ z.2 ∧ z.2 ≤ 1000000000 := fun z hz => by have := HI.out.gens z (List.mem_append_right _ hz); omega
                        have HGen := Lib.hid hgen
                        clear hgen
                        have hcc : hs.length ≤ hc := HOk.out.2.2.2.1
                        have HN := Lib.hid (named_any ha hc hs W1 x2.heap.size x2.heap.size vF vT fr tk M1.out.r (HRd.out.below (Nat.le_refl _) M1.out.bel) hcc (by omega) (by omega))
                        have hnl := HI.out.named hs
                        obtain ⟨L, hL⟩ : ∃ L, namedR tk hs = L := ⟨_, rfl⟩
                        rw [hL] at HN hnl
                        have hlL : L.length ≤ 30 := by omega
                        have HI64 := Lib.hid (fun (z : H2) (hz : z ∈ L) => show I64H z.1 from by
                          rw [← hL] at hz
                          obtain ⟨y, _, hy⟩ := List.mem_flatMap.1 hz
                          exact C.rng M1.out.a z (List.mem_append_right _ (List.mem_filter.1 hy).1))
                        clear hL hnl
                        go_wp2_with fail
                        refine HN.out.mono ?_
                        rintro e y1 ⟨v22, rfl, r1, b1'⟩
                        have M2 := Lib.hid (M1.out.below b1')
                        have X2 := Lib.hid (X1.out.below b1')
                        obtain ⟨A22, c22, rfl, hc22, rd22, hb22, _⟩ := r1.rd
                        have HB22 := Lib.hid hb22
                        have hS := Lib.hid (fun (g : Nat) (hg : (Value.slice A22 L.length c22).ownBlock = some g) => show ¬ S g ∧ g ≠ x2.heap.size from by
                          have h1 := (r1.lt g hg).1
                          refine ⟨fun hs => ?_, ?_⟩
                          · have := (C.foot M1.out.a g hs).2; omega
                          · have := M1.out.r.lt; omega)
                        clear hb22 b1'
                        by_cases good : goodF tk L
                        · have HF1 := Lib.hid (C.freeGood A22 c22 L M2.out.a rd22 (fun _ ad e => (hS.out _ (HB22.out ad e).1).1) hc22 (by omega) HGen.out HI64.out good)
                          go_wp2_with fail
                          refine HF1.out.mono ?_
                          rintro e y2 ⟨S', rfl, hA1, m1⟩
                          have M3 := Lib.hid (M2.out.moveA hA1 m1)
                          have X3 := Lib.hid (X2.out.moveA m1)
                          have rd2 := rd22.only m1.1 (fun ad e => (hS.out _ (HB22.out ad e).1).1)
                          have HF2 := Lib.hid (refFreeGood A22 c22 L _ _ _ _ _ _ _ M3.out.r rd2 (fun _ ad e => (hS.out _ (HB22.out ad e).1).2) hc22 (by omega) (by omega) (by omega) HGen.out good)
                          clear hA1 m1 rd2
                          go_wp2_with fail
                          refine HF2.out.mono ?_
                          rintro e y3 ⟨vF', vT', rfl, rA, hf, on⟩
                          have M4 := Lib.hid (M3.out.moveR rA on hf)
                          have X4 := Lib.hid (X3.out.moveR on hf)
                          clear rA on hf
                          go_wp2_with fail
                          go_meet
                          case rel => exact ⟨rfl, vF', vT', _, _, S', m + L.length, M4.out, ActsI.free L HI.out good, by omega, X4.out⟩
                        · have HF1 := Lib.hid (C.freeBad A22 c22 L M2.out.a rd22 (fun _ ad e => (hS.out _ (HB22.out ad e).1).1) hc22 (by omega) HGen.out HI64.out good)
                          go_wp2_with fail
                          refine HF1.out.mono ?_
                          rintro e y2 ⟨S', rfl, hA1, m1⟩
                          have M3 := Lib.hid (M2.out.moveA hA1 m1)
                          have X3 := Lib.hid (X2.out.moveA m1)
                          have rd2 := rd22.only m1.1 (fun ad e => (hS.out _ (HB22.out ad e).1).1)
                          have HF2 := Lib.hid (refFreeBad A22 c22 L _ _ _ _ _ _ _ M3.out.r rd2 (fun _ ad e => (hS.out _ (HB22.out ad e).1).2) hc22 (by omega) (by omega) (by omega) HGen.out good)
                          clear hA1 m1 rd2
                          go_wp2_with fail
                          refine HF2.out.mono ?_
                          rintro e y3 ⟨rfl, b3⟩
                          have M4 := Lib.hid (M3.out.below b3)
                          have X4 := Lib.hid (X3.out.below b3)
                          clear b3
                          go_wp2_with fail
                          go_meet
                          case rel => exact ⟨rfl, vF, vT, fr, tk, S', m, M4.out, HI.out, by omega, X4.out⟩
                    · go_wp2_with fail
                      go_meet
                      case rel => exact ⟨rfl, vF, vT, fr, tk, S, m, M1.out, HI.out, by omega, X1.out⟩
            case rest =>
              as_aux_lemma =>
                obtain ⟨rfl, vF, vT, fr, tk, S, m', hM, hI, hm', hX⟩ := hcut
                have M5 := Lib.hid hM
                have I5 := Lib.hid hI
                have X5 := Lib.hid hX
                have hcnt5 := hI.count
                obtain ⟨e0, e1, e2⟩ := hX.cells
                dsimp only at e2
                obtain ⟨r0, r1, r2, r3⟩ := hM.r.cells
                obtain ⟨AT, cT, eT, hcT, rdT, hbT, _⟩ := hM.r.rT.rd
                rw [eT] at r1
                have HeT := Lib.hid eT
                have hbd : Below wc.heap.size wc wc.drew := (Below.refl _ _).drew
                have HLen := Lib.hid (C.len_ (M5.out.below hbd).a)
                have HD := Lib.hid hbd
                clear hM hI hX r0 r2 r3 eT hbT rdT e0 e1 d0 d1 d2 hcnt hbd
                go_upto_region 32 with fail
                refine wp_region_held_drew (S := (fun w' => w'.cell? { block := x2.heap.size, off := 1 } = some (.slice AT tk.length cT))) (by kernel_rfl) r1 (fun hHeld => ?_)
                refine wpAnyH_take (i := 0) (v := ?_) (by simp only [List.getElem?_toArray, List.getElem?_cons_zero]; rfl) (by kernel_rfl) (by kernel_rfl) (by kernel_rfl) (by exact fun _ _ _ h => h) (Or.inl ⟨by rfl, ?_⟩) (by assumption) ?_
                rotate_left
                · intro w hSw; (try dsimp only at hSw); go_simp; (try with_reducible rfl)
                try simp only [Act.put, List.setIfInBounds_toArray, List.set_cons_zero, List.set_cons_succ]
                refine wpAnyH_take (i := 1) (v := ?_) (by simp only [List.getElem?_toArray, List.getElem?_cons_zero, List.getElem?_cons_succ]; rfl) (by kernel_rfl) (by kernel_rfl) (by kernel_rfl) (by exact fun _ _ _ h => h) (Or.inl ⟨by rfl, ?_⟩) (by assumption) ?_
                rotate_left
                · intro w hSw; (try dsimp only at hSw); go_simp; (try with_reducible rfl)
                try simp only [Act.put, List.setIfInBounds_toArray, List.set_cons_zero, List.set_cons_succ]
                refine wpAnyH_take (i := 2) (v := ?_) (by simp only [List.getElem?_toArray, List.getElem?_cons_zero, List.getElem?_cons_succ]; rfl) (by kernel_rfl) (by kernel_rfl) (by kernel_rfl) (by exact fun _ _ _ h => h) (Or.inl ⟨by rfl, ?_⟩) (by assumption) ?_
                rotate_left
                · intro w hSw; (try dsimp only at hSw); go_simp; (try with_reducible rfl)
                try simp only [Act.put, List.setIfInBounds_toArray, List.set_cons_zero, List.set_cons_succ]
                refine wpAnyH_take (i := 3) (v := ?_) (by simp only [List.getElem?_toArray, List.getElem?_cons_zero, List.getElem?_cons_succ]; rfl) (by kernel_rfl) (by kernel_rfl) (by kernel_rfl) (by exact fun _ _ _ h => h) (Or.inl ⟨by rfl, ?_⟩) (by assumption) ?_
                rotate_left
                · intro w hSw; (try dsimp only at hSw); go_simp; (try with_reducible rfl)
                try simp only [Act.put, List.setIfInBounds_toArray, List.set_cons_zero, List.set_cons_succ]
                refine wpAnyH_take (i := 5) (v := ?_) (by simp only [List.getElem?_toArray, List.getElem?_cons_zero, List.getElem?_cons_succ]; rfl) (by kernel_rfl) (by kernel_rfl) (by kernel_rfl) (by exact fun _ _ _ h => h) (Or.inl ⟨by rfl, ?_⟩) (by assumption) ?_
                rotate_left
                · intro w hSw; (try dsimp only at hSw); go_simp; (try with_reducible rfl)
                try simp only [Act.put, List.setIfInBounds_toArray, List.set_cons_zero, List.set_cons_succ]
                refine wpAnyH_take (i := 6) (v := ?_) (by simp only [List.getElem?_toArray, List.getElem?_cons_zero, List.getElem?_cons_succ]; rfl) (by kernel_rfl) (by kernel_rfl) (by kernel_rfl) (by exact fun _ _ _ h => h) (Or.inl ⟨by rfl, ?_⟩) (by assumption) ?_
                rotate_left
                · intro w hSw; (try dsimp only at hSw); go_simp; (try with_reducible rfl)
                try simp only [Act.put, List.setIfInBounds_toArray, List.set_cons_zero, List.set_cons_succ]
                refine wpAnyH_take (i := 7) (v := ?_) (by simp only [List.getElem?_toArray, List.getElem?_cons_zero, List.getElem?_cons_succ]; rfl) (by kernel_rfl) (by kernel_rfl) (by kernel_rfl) (by exact fun _ _ _ h => h) (Or.inl ⟨by rfl, ?_⟩) (by assumption) ?_
                rotate_left
                · intro w hSw; (try dsimp only at hSw); go_simp; (try with_reducible rfl)
                try simp only [Act.put, List.setIfInBounds_toArray, List.set_cons_zero, List.set_cons_succ]
                refine wpAnyH_take (i := 8) (v := ?_) (by simp only [List.getElem?_toArray, List.getElem?_cons_zero, List.getElem?_cons_succ]; rfl) (by kernel_rfl) (by kernel_rfl) (by kernel_rfl) (by exact fun _ _ _ h => h) (Or.inl ⟨by rfl, ?_⟩) (by assumption) ?_
                rotate_left
                · intro w hSw; (try dsimp only at hSw); go_simp; (try with_reducible rfl)
                try simp only [Act.put, List.setIfInBounds_toArray, List.set_cons_zero, List.set_cons_succ]
                refine wpAnyH_take (i := 9) (v := ?_) (by simp only [List.getElem?_toArray, List.getElem?_cons_zero, List.getElem?_cons_succ]; rfl) (by kernel_rfl) (by kernel_rfl) (by kernel_rfl) (by exact fun _ _ _ h => h) (Or.inl ⟨by rfl, ?_⟩) (by assumption) ?_
                rotate_left
                · intro w hSw; (try dsimp only at hSw); go_simp; (try with_reducible rfl)
                try simp only [Act.put, List.setIfInBounds_toArray, List.set_cons_zero, List.set_cons_succ]
                refine wpAnyH_ready (rs := [4]) (by kernel_rfl) (by simp) ?_
                refine AllReadyH.cons (by simp only [List.getElem?_toArray, List.getElem?_cons_zero, List.getElem?_cons_succ]; rfl) (fun K hK => ?_) AllReadyH.nil
                go_simp
                refine HLen.out.mono ?_
                rintro e y1 ⟨rfl, f1⟩
                have N1' := Lib.hid (HD.out.trans (f1.mono HD.out.size))
                go_wp2_with fail
                refine hK.out _ _ ((World.cell?_of_block (a := { block := x2.heap.size, off := 1 }) (N1'.out.block _ M5.out.r.lt)).trans r1) (fun hHeld => ?_)
                clear hK K
                try simp only [Act.put, List.setIfInBounds_toArray, List.set_cons_zero, List.set_cons_succ]
                refine wpAnyH_take (i := 10) (v := ?_) (by simp only [List.getElem?_toArray, List.getElem?_cons_zero, List.getElem?_cons_succ]; rfl) (by kernel_rfl) (by kernel_rfl) (by kernel_rfl) (by exact fun _ _ _ h => h) (Or.inl ⟨by rfl, ?_⟩) (by assumption) ?_
                rotate_left
                · intro w hSw; (try dsimp only at hSw); go_simp; (try with_reducible rfl)
                try simp only [Act.put, List.setIfInBounds_toArray, List.set_cons_zero, List.set_cons_succ]
                refine wpAnyH_take (i := 11) (v := ?_) (by simp only [List.getElem?_toArray, List.getElem?_cons_zero, List.getElem?_cons_succ]; rfl) (by kernel_rfl) (by kernel_rfl) (by kernel_rfl) (by exact fun _ _ _ h => h) (Or.inl ⟨by rfl, ?_⟩) (by assumption) ?_
                rotate_left
                · intro w hSw; (try dsimp only at hSw); go_simp; (try with_reducible rfl)
                try simp only [Act.put, List.setIfInBounds_toArray, List.set_cons_zero, List.set_cons_succ]
                refine wpAnyH_take (i := 12) (v := ?_) (by simp only [List.getElem?_toArray, List.getElem?_cons_zero, List.getElem?_cons_succ]; rfl) (by kernel_rfl) (by kernel_rfl) (by kernel_rfl) (by exact fun _ _ _ h => h) (Or.inl ⟨by rfl, ?_⟩) (by assumption) ?_
                rotate_left
                · intro w hSw; (try dsimp only at hSw); go_simp; (try with_reducible rfl)
                try simp only [Act.put, List.setIfInBounds_toArray, List.set_cons_zero, List.set_cons_succ]
                refine wpAnyH_take (i := 13) (v := ?_) (by simp only [List.getElem?_toArray, List.getElem?_cons_zero, List.getElem?_cons_succ]; rfl) (by kernel_rfl) (by kernel_rfl) (by kernel_rfl) (by exact fun _ _ _ h => h) (Or.inl ⟨by rfl, ?_⟩) (by assumption) ?_
                rotate_left
                · intro w hSw; (try dsimp only at hSw); go_simp; (try with_reducible rfl)
                try simp only [Act.put, List.setIfInBounds_toArray, List.set_cons_zero, List.set_cons_succ]
                refine wpAnyH_take (i := 15) (v := ?_) (by simp only [List.getElem?_toArray, List.getElem?_cons_zero, List.getElem?_cons_succ]; rfl) (by kernel_rfl) (by kernel_rfl) (by kernel_rfl) (by exact fun _ _ _ h => h) (Or.inl ⟨by rfl, ?_⟩) (by assumption) ?_
                rotate_left
                · intro w hSw; (try dsimp only at hSw); go_simp; (try with_reducible rfl)
                try simp only [Act.put, List.setIfInBounds_toArray, List.set_cons_zero, List.set_cons_succ]
                have HRoom := Lib.hid (C.room_ (M5.out.below N1'.out).a)
                refine wpAnyH_ready (rs := [14]) (by kernel_rfl) (by simp) ?_
                refine AllReadyH.cons (by simp only [List.getElem?_toArray, List.getElem?_cons_zero, List.getElem?_cons_succ]; rfl) (fun K hK => ?_) AllReadyH.nil
                go_simp
                refine HRoom.out.mono ?_
                rintro e y2 ⟨rfl, f2⟩
                have N2' := Lib.hid (N1'.out.trans (f2.mono N1'.out.size))
                go_wp2_with fail
                refine hK.out _ _ ((World.cell?_of_block (a := { block := x2.heap.size, off := 1 }) (N2'.out.block _ M5.out.r.lt)).trans r1) (fun hHeld => ?_)
                clear hK K
                try simp only [Act.put, List.setIfInBounds_toArray, List.set_cons_zero, List.set_cons_succ]
                refine wpAnyH_take (i := 16) (v := ?_) (by simp only [List.getElem?_toArray, List.getElem?_cons_zero, List.getElem?_cons_succ]; rfl) (by kernel_rfl) (by kernel_rfl) (by kernel_rfl) (by exact fun _ _ _ h => h) (Or.inl ⟨by rfl, ?_⟩) (by assumption) ?_
                rotate_left
                · intro w hSw; (try dsimp only at hSw); go_simp; (try with_reducible rfl)
                try simp only [Act.put, List.setIfInBounds_toArray, List.set_cons_zero, List.set_cons_succ]
                refine wpAnyH_take (i := 17) (v := ?_) (by simp only [List.getElem?_toArray, List.getElem?_cons_zero, List.getElem?_cons_succ]; rfl) (by kernel_rfl) (by kernel_rfl) (by kernel_rfl) (by exact fun _ _ _ h => h) (Or.inl ⟨by rfl, ?_⟩) (by assumption) ?_
                rotate_left
                · intro w hSw; (try dsimp only at hSw); go_simp; (try with_reducible rfl)
                try simp only [Act.put, List.setIfInBounds_toArray, List.set_cons_zero, List.set_cons_succ]
                refine wpAnyH_done (by kernel_rfl) ?_ _
                have M6 := Lib.hid (M5.out.below N2'.out)
                have X6 := Lib.hid (X5.out.below N2'.out)
                obtain ⟨e0, e1, e2⟩ := X6.out.cells
                dsimp only at e2
                clear e0 e1 r1 f1 f2
                go_wp2_with fail
                go_loopw [23] (fun i wj => ∃ j : Nat, j ≤ hs.length ∧ i = .int .i64 (j : Nat) ∧ Below y2.heap.size y2 wj) (fun i _ => hs.length - (intOf i).toNat)
                case atStart => exact ⟨0, Nat.zero_le _, rfl, Below.refl _ _⟩
                case round =>
                  clear e2
                  obtain ⟨j, hj, rfl, hbj⟩ := hrel
                  have M7 := Lib.hid (M6.out.below hbj)
                  have X7 := Lib.hid (X6.out.below hbj)
                  obtain ⟨e0, e1, e2⟩ := X7.out.cells
                  dsimp only at e2
                  clear e0 e1
                  by_cases hjl : j < hs.length
                  · have hjl2 : (j : Int) < (hs.length : Int) := by omega
                    have HRd := Lib.hid HOk.out.2.2.2.2.1
                    obtain ⟨ae, hae, _, g0, g1⟩ := (HRd.out.below (Nat.le_refl _) M7.out.bel).at2 hjl
                    subst hae
                    obtain ⟨y, hy⟩ : ∃ y, hs.getD j H2.no = y := ⟨_, rfl⟩
                    have HY := Lib.hid hy
                    rw [hy] at g0 g1
                    obtain ⟨ya, yb⟩ := y
                    dsimp only at g0 g1
                    have HKeep := Lib.hid (fun (W : World) (hW : Below wr.heap.size wr W) => show W.cell? { block := bx, off := 2 } = some (.slice (some ae) hs.length hc) ∧ W.cell? (ae.add (j * 2)) = some (.int .i64 ya) ∧ W.cell? { block := (ae.add (j * 2)).block, off := (ae.add (j * 2)).off + 1 } = some (.int .i64 yb) from by
                      obtain ⟨af, haf, _, g0, g1⟩ := (HRd.out.below (Nat.le_refl _) (M7.out.below hW).bel).at2 hjl
                      obtain rfl : ae = af := by injection haf
                      rw [HY.out] at g0 g1
                      exact ⟨(X7.out.below hW).cells.2.2, g0, g1⟩)
                    have hbd : Below wr.heap.size wr wr.drew := (Below.refl _ _).drew
                    have HD := Lib.hid hbd
                    have hy64 : I64H ya := by
                      have := (HOk.out.2.2.2.2.2 _ (mem_getD hjl)).1
                      rw [HY.out] at this
                      exact this
                    have la := C.live_ (ya, yb) hy64 (M7.out.below hbd).a
                    obtain ⟨b, hb⟩ : ∃ b, decide ((ya, yb) ∈ tk) = b := ⟨_, rfl⟩
                    rw [hb] at la
                    unfold handV at la
                    dsimp only at la
                    have HLa := Lib.hid la
                    have HB := Lib.hid hb
                    clear hy la hb hbd
                    go_wp2_with fail
                    refine wp_region_held_drew (S := (fun w' => w'.cell? { block := bx, off := 2 } = some (.slice (some ae) hs.length hc) ∧ w'.cell? (ae.add (j * 2)) = some (.int .i64 ya) ∧ w'.cell? { block := (ae.add (j * 2)).block, off := (ae.add (j * 2)).off + 1 } = some (.int .i64 yb))) (by kernel_rfl) (by exact HKeep.out wr.drew HD.out) (fun hHeld => ?_)
                    refine wpAnyH_take (i := 0) (v := ?_) (by simp only [List.getElem?_toArray, List.getElem?_cons_zero]; rfl) (by kernel_rfl) (by kernel_rfl) (by kernel_rfl) (by exact fun _ _ _ h => h) (Or.inl ⟨by rfl, ?_⟩) (by assumption) ?_
                    rotate_left
                    · intro w hSw; (try dsimp only at hSw); go_simp; (try with_reducible rfl)
                    try simp only [Act.put, List.setIfInBounds_toArray, List.set_cons_zero, List.set_cons_succ]
                    refine wpAnyH_take (i := 1) (v := ?_) (by simp only [List.getElem?_toArray, List.getElem?_cons_zero, List.getElem?_cons_succ]; rfl) (by kernel_rfl) (by kernel_rfl) (by kernel_rfl) (by exact fun _ _ _ h => h) (Or.inl ⟨by rfl, ?_⟩) (by assumption) ?_
                    rotate_left
                    · intro w hSw; (try dsimp only at hSw); go_simp; (try with_reducible rfl)
                    try simp only [Act.put, List.setIfInBounds_toArray, List.set_cons_zero, List.set_cons_succ]
                    refine wpAnyH_take (i := 2) (v := ?_) (by simp only [List.getElem?_toArray, List.getElem?_cons_zero, List.getElem?_cons_succ]; rfl) (by kernel_rfl) (by kernel_rfl) (by kernel_rfl) (by exact fun _ _ _ h => h) (Or.inl ⟨by rfl, ?_⟩) (by assumption) ?_
                    rotate_left
                    · intro w hSw; (try dsimp only at hSw); go_simp; (try with_reducible rfl)
                    try simp only [Act.put, List.setIfInBounds_toArray, List.set_cons_zero, List.set_cons_succ]
                    refine wpAnyH_take (i := 3) (v := ?_) (by simp only [List.getElem?_toArray, List.getElem?_cons_zero, List.getElem?_cons_succ]; rfl) (by kernel_rfl) (by kernel_rfl) (by kernel_rfl) (by exact fun _ _ _ h => h) (Or.inl ⟨by rfl, ?_⟩) (by assumption) ?_
                    rotate_left
                    · intro w hSw; (try dsimp only at hSw); go_simp; (try with_reducible rfl)
                    try simp only [Act.put, List.setIfInBounds_toArray, List.set_cons_zero, List.set_cons_succ]
                    refine wpAnyH_take (i := 4) (v := ?_) (by simp only [List.getElem?_toArray, List.getElem?_cons_zero, List.getElem?_cons_succ]; rfl) (by kernel_rfl) (by kernel_rfl) (by kernel_rfl) (by exact fun _ _ _ h => h) (Or.inl ⟨by rfl, ?_⟩) (by assumption) ?_
                    rotate_left
                    · intro w hSw; (try dsimp only at hSw); go_simp; (try with_reducible rfl)
                    try simp only [Act.put, List.setIfInBounds_toArray, List.set_cons_zero, List.set_cons_succ]
                    refine wpAnyH_take (i := 5) (v := ?_) (by simp only [List.getElem?_toArray, List.getElem?_cons_zero, List.getElem?_cons_succ]; rfl) (by kernel_rfl) (by kernel_rfl) (by kernel_rfl) (by exact fun _ _ _ h => h) (Or.inl ⟨by rfl, ?_⟩) (by assumption) ?_
                    rotate_left
                    · intro w hSw; (try dsimp only at hSw); go_simp; (try with_reducible rfl)
                    try simp only [Act.put, List.setIfInBounds_toArray, List.set_cons_zero, List.set_cons_succ]
                    refine wpAnyH_take (i := 7) (v := ?_) (by simp only [List.getElem?_toArray, List.getElem?_cons_zero, List.getElem?_cons_succ]; rfl) (by kernel_rfl) (by kernel_rfl) (by kernel_rfl) (by exact fun _ _ _ h => h) (Or.inl ⟨by rfl, ?_⟩) (by assumption) ?_
                    rotate_left
                    · intro w hSw; (try dsimp only at hSw); go_simp; (try with_reducible rfl)
                    try simp only [Act.put, List.setIfInBounds_toArray, List.set_cons_zero, List.set_cons_succ]
                    refine wpAnyH_take (i := 8) (v := ?_) (by simp only [List.getElem?_toArray, List.getElem?_cons_zero, List.getElem?_cons_succ]; rfl) (by kernel_rfl) (by kernel_rfl) (by kernel_rfl) (by exact fun _ _ _ h => h) (Or.inl ⟨by rfl, ?_⟩) (by assumption) ?_
                    rotate_left
                    · intro w hSw; (try dsimp only at hSw); go_simp; (try with_reducible rfl)
                    try simp only [Act.put, List.setIfInBounds_toArray, List.set_cons_zero, List.set_cons_succ]
                    refine wpAnyH_take (i := 9) (v := ?_) (by simp only [List.getElem?_toArray, List.getElem?_cons_zero, List.getElem?_cons_succ]; rfl) (by kernel_rfl) (by kernel_rfl) (by kernel_rfl) (by exact fun _ _ _ h => h) (Or.inl ⟨by rfl, ?_⟩) (by assumption) ?_
                    rotate_left
                    · intro w hSw; (try dsimp only at hSw); go_simp; (try with_reducible rfl)
                    try simp only [Act.put, List.setIfInBounds_toArray, List.set_cons_zero, List.set_cons_succ]
                    refine wpAnyH_take (i := 10) (v := ?_) (by simp only [List.getElem?_toArray, List.getElem?_cons_zero, List.getElem?_cons_succ]; rfl) (by kernel_rfl) (by kernel_rfl) (by kernel_rfl) (by exact fun _ _ _ h => h) (Or.inl ⟨by rfl, ?_⟩) (by assumption) ?_
                    rotate_left
                    · intro w hSw; (try dsimp only at hSw); go_simp; (try with_reducible rfl)
                    try simp only [Act.put, List.setIfInBounds_toArray, List.set_cons_zero, List.set_cons_succ]
                    refine wpAnyH_take (i := 11) (v := ?_) (by simp only [List.getElem?_toArray, List.getElem?_cons_zero, List.getElem?_cons_succ]; rfl) (by kernel_rfl) (by kernel_rfl) (by kernel_rfl) (by exact fun _ _ _ h => h) (Or.inl ⟨by rfl, ?_⟩) (by assumption) ?_
                    rotate_left
                    · intro w hSw; (try dsimp only at hSw); go_simp; (try with_reducible rfl)
                    try simp only [Act.put, List.setIfInBounds_toArray, List.set_cons_zero, List.set_cons_succ]
                    refine wpAnyH_take (i := 12) (v := ?_) (by simp only [List.getElem?_toArray, List.getElem?_cons_zero, List.getElem?_cons_succ]; rfl) (by kernel_rfl) (by kernel_rfl) (by kernel_rfl) (by exact fun _ _ _ h => h) (Or.inl ⟨by rfl, ?_⟩) (by assumption) ?_
                    rotate_left
                    · intro w hSw; (try dsimp only at hSw); go_simp; (try with_reducible rfl)
                    try simp only [Act.put, List.setIfInBounds_toArray, List.set_cons_zero, List.set_cons_succ]
                    refine wpAnyH_ready (rs := [6]) (by kernel_rfl) (by simp) ?_
                    refine AllReadyH.cons (by simp only [List.getElem?_toArray, List.getElem?_cons_zero, List.getElem?_cons_succ]; rfl) (fun K hK => ?_) AllReadyH.nil
                    go_simp
                    refine HLa.out.mono ?_
                    rintro e y3 ⟨rfl, f1⟩
                    have HQ1 := Lib.hid (HD.out.trans (f1.mono HD.out.size))
                    go_wp2_with fail
                    refine hK.out _ _ (HKeep.out _ HQ1.out) (fun hHeld => ?_)
                    clear hK K
                    try simp only [Act.put, List.setIfInBounds_toArray, List.set_cons_zero, List.set_cons_succ]
                    have lr := refLive_any (ya, yb) _ _ _ _ _ _ _ (M7.out.below HQ1.out).r (by omega)
                    rw [HB.out] at lr
                    unfold handV at lr
                    dsimp only at lr
                    have HLr := Lib.hid lr
                    clear lr
                    refine wpAnyH_ready (rs := [13]) (by kernel_rfl) (by simp) ?_
                    refine AllReadyH.cons (by simp only [List.getElem?_toArray, List.getElem?_cons_zero, List.getElem?_cons_succ]; rfl) (fun K hK => ?_) AllReadyH.nil
                    go_simp
                    refine HLr.out.mono ?_
                    rintro e y4 ⟨rfl, f2⟩
                    have HQ2 := Lib.hid (HQ1.out.trans (f2.mono HQ1.out.size))
                    go_wp2_with fail
                    refine hK.out _ _ (HKeep.out _ HQ2.out) (fun hHeld => ?_)
                    clear hK K
                    try simp only [Act.put, List.setIfInBounds_toArray, List.set_cons_zero, List.set_cons_succ]
                    refine wpAnyH_take (i := 14) (v := ?_) (by simp only [List.getElem?_toArray, List.getElem?_cons_zero, List.getElem?_cons_succ]; rfl) (by kernel_rfl) (by kernel_rfl) (by kernel_rfl) (by exact fun _ _ _ h => h) (Or.inl ⟨by rfl, ?_⟩) (by assumption) ?_
                    rotate_left
                    · intro w hSw; (try dsimp only at hSw); go_simp; (try with_reducible rfl)
                    try simp only [Act.put, List.setIfInBounds_toArray, List.set_cons_zero, List.set_cons_succ]
                    refine wpAnyH_done (by kernel_rfl) ?_ _
                    have M8 := Lib.hid (HQ2.out)
                    clear g0 g1 f1 f2
                    go_wp2_with fail
                    go_roundw
                    case rel => exact ⟨j + 1, by omega, by go_num, hbj.trans (M8.out.mono hbj.size)⟩
                    case measure => simp [intOf]; omega
                  · obtain rfl : j = hs.length := by omega
                    obtain ⟨wk, hwk⟩ : ∃ x, x = wr := ⟨_, rfl⟩
                    subst hwk
                    go_wp2_with fail
                    go_loopw [24] (fun i wj => ∃ j : Nat, j ≤ tk.length ∧ i = .int .i64 (j : Nat) ∧ Below wk.heap.size wk wj) (fun i _ => tk.length - (intOf i).toNat)
                    case atStart => exact ⟨0, Nat.zero_le _, rfl, Below.refl _ _⟩
                    case round =>
                      clear e2
                      obtain ⟨j, hj, rfl, hbj⟩ := hrel
                      have M8 := Lib.hid (M7.out.below hbj)
                      have X8 := Lib.hid (X7.out.below hbj)
                      obtain ⟨r0, r1, r2, r3⟩ := M8.out.r.cells
                      obtain ⟨A', c', eT, hcT, rdT, _, _⟩ := M8.out.r.rT.rd
                      have q1 : AT = A' := by injection (HeT.out.symm.trans eT)
                      have q2 : cT = c' := by injection (HeT.out.symm.trans eT)
                      subst q1
                      subst q2
                      rw [eT] at r1
                      clear r0 r2 r3 eT
                      by_cases hjl : j < tk.length
                      · have hjl2 : (j : Int) < (tk.length : Int) := by omega
                        obtain ⟨ae, hae, _, g0, g1⟩ := rdT.at2 hjl
                        subst hae
                        have hmem := mem_getD hjl
                        obtain ⟨y, hy⟩ : ∃ y, tk.getD j H2.no = y := ⟨_, rfl⟩
                        rw [hy] at g0 g1 hmem
                        have la := C.live_ y (C.rng M8.out.a y (List.mem_append_right _ hmem)) M8.out.a
                        rw [decide_eq_true hmem] at la
                        obtain ⟨ya, yb⟩ := y
                        unfold handV at la
                        dsimp only at g0 g1 la
                        have HLa := Lib.hid la
                        clear hy la hmem rdT
                        go_wp2_with fail
                        refine HLa.out.mono ?_
                        rintro e y3 ⟨rfl, f1⟩
                        go_wp2_with fail
                        go_roundw
                        case rel => exact ⟨j + 1, by omega, by go_num, hbj.trans (f1.mono hbj.size)⟩
                        case measure => simp [intOf]; omega
                      · obtain rfl : j = tk.length := by omega
                        clear rdT
                        go_wp2_with fail
                        go_roundw
                        case rel => exact ⟨k + 1, vF, vT, fr, tk, S, m', by go_num, by omega, M8.out, I5.out, by omega⟩
                        case measure => simp [intOf]; omega
        · obtain rfl : k = z1.length := by omega
          go_wp2_with fail
          go_ret
          exact ⟨rfl, hbw⟩

set_option maxRecDepth 100000 in
theorem lifted (os : Os) (started : os.Started) (H : Type) (enc : TypeId × Value → H) :
    ReturnsInHanded {} Try.checked os 3 .any (Rows.arenaActsSpec.pre6 enc Try.prog Try.f3 Rows.arenaActsRow.domain false) (Rows.arenaActsSpec.post enc Try.prog Try.f3 false true false false) := by
  refine returnsInHanded_of_change (C := Try.checked) own started (by kernel_rfl) Try.func3
    (ChangeSpec.witness6 (enc := enc) (C := Try.checked) false ⟨#[], #[.int .i64 0, .slice none 0 0], []⟩ 8 (by kernel_rfl) (by kernel_rfl) (by kernel_rfl) (by kernel_rfl)) ?_
  intro W base args ds gs before hval0 hW hcnd _
  have hval : ∀ (j : Nat) t v, Try.f3.params[j]? = some t → args[j]? = some v → Value.okWide Try.prog W .any base t v := hval0
  have hW' := hW
  obtain ⟨p, q, hA0, hV, rfl, hfz, hnd⟩ := hW
  have hA : DataW.TrodAll enc Try.prog W 0 (fun _ => true) true Try.f3.params.toList args.toList ds p := hA0
  rw [Try.params3] at hA hval
  obtain ⟨v0, vs0, d0, ds0, p0, q0, hargs, rfl, rfl, h0, r0⟩ := trodAll_cons hA
  obtain ⟨v1, vs1, d1, ds1, p1, q1, rfl, rfl, rfl, h1, r1⟩ := trodAll_cons r0
  obtain ⟨rfl, rfl, rfl⟩ := trodAll_nil r1
  obtain rfl : args = #[v0, v1] := by cases args; simp_all
  obtain ⟨rfl, rfl⟩ := trodVars_none hV
  obtain ⟨a0, rfl, rfl, rfl, w0⟩ := open_int Try.underlying3 (hval 0 3 v0 rfl rfl) h0
  obtain ⟨a1, l1, c1, rfl⟩ := okWide_slice Try.underlying22 (hval 1 22 v1 rfl rfl)
  have tk1 := h1
  have lt1 : ∀ x ∈ p1, x.block < W.heap.size := by obtain ⟨m, hm⟩ := tk1; exact DataW.trod_lt m _ _ _ hm
  obtain ⟨z1, w1⟩ : ∃ zs, SlcA W a1 l1 c1 zs := by
    obtain ⟨fuel, hf⟩ := h1
    exact open_acts (by simpa [Value.cells] using hf)
  clear hA0 hval0
  refine (walk a0 a1 l1 c1 z1 w0 W w1).mono fun e W' ⟨he, bel⟩ => ?_
  subst he
  exact ⟨_, rfl, _, _, _, [], _, [], hW', trodAll_mk1 (shut_bool Try.underlying4 _), (trodAll_cons_mk (shut_int Try.underlying3 w0) (trodAll_cons_mk (Below.trod laidOut (by kernel_rfl) (of_decide_eq_true (by kernel_rfl)) tk1 bel lt1) trodAll_mk0)), rfl, bel.frame _, fun h => by cases h⟩

theorem over : Rows.arenaActsRow.holds Try.pinned (OpenSpec.ofChange Rows.arenaActsSpec) :=
  OpenClaim.holds_of_wide 3 Try.f3 rfl rfl rfl rfl rfl rfl rfl ⟨rfl, rfl, rfl, rfl, rfl⟩ rfl rfl rfl rfl rfl (by kernel_rfl) Try.func3 (by kernel_rfl)
    (of_decide_eq_true (by kernel_rfl)) (by unfold Func.isWrapper; first | (rw [if_pos (by decide +kernel)]; kernel_rfl) | (rw [if_neg (by decide +kernel)]; exact ⟨rfl, rfl⟩))
    (fun os started H enc _ => lifted os started H enc)
theorem proved : Rows.ArenaActsSaid := over
end Go.Proofs.Ytomcpjgklecopaa.arenaActs
