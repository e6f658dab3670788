/- Values' bytes, one behind the other, are taken one by one as they are. -/
import Derived.Test.YtkimibppfniejaaDoorDoorV
import Derived.Test.YtkimibppfniejaaDoorPost
import Derived.Test.YtkimibppfniejaaDoorOpenW
import Derived.Test.YtkimibppfniejaaDoorValLaws
import Derived.Test.YtkimibppfniejaaDoorValList
namespace Go.Proofs.YtkimibppfniejaaDoor.valueRows
open Go.ChangeShapes Go.WideShapes Go.ChangeAt Go.RowKit
open Go.ChangeMaps (open_string shut_string)
set_option linter.unusedVariables false

set_option maxHeartbeats 4000000 in
set_option maxRecDepth 100000 in
theorem walk (a0 : Option Addr) (l0 c0 : Nat) (z0 : List Val3)  (w : World) (w0 : SlcV w a0 l0 c0 z0) (hT : Std w) :
    Calls Tryd.prog 8 #[.slice a0 l0 c0] w fun e w' => e = .returned (.bool true) ∧ Below w.heap.size w w' := by
  obtain ⟨hl0, hlc, hrd, hin⟩ := w0
  subst hl0
  obtain ⟨i0, hi, hz0, hz1, hz2⟩ := info_parts byte_infoV
  have HAw := Lib.hid (awake_any)
  have HRd := Lib.hid hrd
  have HIn := Lib.hid hin
  clear hrd hin
  by_cases hbig : 30 < z0.length
  · go_enter Tryd.func8, Tryd.ntmps8
    go_wp2_with fail
    refine (HAw.out _ hT).mono ?_
    rintro e x1 ⟨rfl, b1⟩
    go_wp2_with fail
    refine (HAw.out _ (hT.below b1)).mono ?_
    rintro e x2 ⟨rfl, b2⟩
    go_wp2_with fail
    go_ret
    exact ⟨rfl, btV b1 b2⟩
  · have hz30 : z0.length ≤ 30 := by omega
    have hd30 : decide (30 < (z0.length : Int)) = false := by simp; omega
    clear hbig
    go_enter Tryd.func8, Tryd.ntmps8
    go_wp2_with fail
    refine (HAw.out _ hT).mono ?_
    rintro e x1 ⟨rfl, b1⟩
    go_wp2_with fail
    go_loopw [3, 4] (fun x i wr => ∃ (j L : Nat) (v : Value), v = x ∧ i = .int .i64 (j : Nat) ∧ j ≤ z0.length ∧ L ≤ 3000 * j ∧ URow wr x1.heap.size v L (bsL (z0.take j)) ∧ (∀ q ∈ z0.take j, rightV q.1 q.2.1 q.2.2 = true) ∧ Below x1.heap.size x1 wr) (fun _ i _ => z0.length - (intOf i).toNat)
    case atStart => exact ⟨0, 0, _, rfl, rfl, by omega, by omega, World.ownsRow_nil _ _ _ _, by simp, Below.refl _ _⟩
    case round =>
      obtain ⟨j, L, v, rfl, rfl, hj, hL, hrow, hall, hbw⟩ := hrel
      have HAll := Lib.hid hall
      clear hall
      have hbz : x1.heap.size ≤ wr.heap.size := hbw.size
      by_cases hlt : j < z0.length
      · obtain ⟨ad, rfl, hblk, gf⟩ := (HRd.out.below (Nat.le_refl _) (btV b1 hbw)).flat hlt
        have htk : z0.take (j + 1) = z0.take j ++ [z0.getD j Val3.no] := by
          rw [List.take_succ_eq_append_getElem hlt, List.getD_eq_getElem?_getD, List.getElem?_eq_getElem hlt]
          rfl
        have hmem : z0.getD j Val3.no ∈ z0 := by rw [List.getD_eq_getElem?_getD, List.getElem?_eq_getElem hlt]; exact List.getElem_mem hlt
        have hvi := HIn.out _ hmem
        obtain ⟨⟨k, n, s⟩, hz⟩ : ∃ z, z0.getD j Val3.no = z := ⟨_, rfl⟩
        rw [hz] at gf htk hvi
        have g0 := gf.c0; have g1 := gf.c1; have g2 := gf.c2
        have hn0 := hvi.2.1.1
        have hn1 := hvi.2.1.2
        simp only [] at hn0 hn1
        have HTk := Lib.hid htk
        clear htk hmem hz hvi
        have hRr := fun W => refRightV_any k n s W
        cases hr : rightV k n s with
        | false =>
          rw [hr] at hRr
          unfold valV at hRr
          have HRr := Lib.hid hRr
          clear hRr hr
          go_wp2_with fail
          refine (HRr.out _).mono ?_
          rintro e x2 ⟨rfl, b2⟩
          go_wp2_with fail
          go_ret
          exact ⟨rfl, btV (btV b1 hbw) b2⟩
        | true =>
          have hvb : ∀ W, Calls Tryd.prog 18 #[valV k n s] W (ValBytesPost W k n s) := fun W => valBytes_any k n s W hn0 hn1
          have hte : thingE k n s = 0 := by unfold thingE; rw [hr]; rfl
          have hpos := bytesR_pos k n s hr
          have hs1000 : s.size ≤ 1000 := by
            rcases right_kinds hr with ⟨_, e⟩ | ⟨_, _, e⟩
            · rw [e]; decide
            · omega
          have hlen := bytesR_len k n s hs1000
          have hbs : bsL (z0.take (j + 1)) = bsL (z0.take j) ++ bytesR k n s := by rw [HTk.out, bsL_append]; simp [bsL]
          have hal : ∀ q ∈ z0.take (j + 1), rightV q.1 q.2.1 q.2.2 = true := by
            rw [HTk.out]
            intro q hq
            rcases List.mem_append.1 hq with h | h
            · exact HAll.out q h
            · obtain rfl : q = (k, n, s) := by simpa using h
              exact hr
          unfold ValBytesPost at hvb
          rw [hte] at hvb
          rw [hr] at hRr
          unfold valV at hRr hvb
          generalize bytesR k n s = bk at *
          obtain ⟨lk, hlk⟩ : ∃ l, bk.length = l := ⟨_, rfl⟩
          rw [hlk] at hpos hlen hvb
          have HRr := Lib.hid hRr; have HVb := Lib.hid hvb; have HBs := Lib.hid hbs; have HAl := Lib.hid hal; have HLk := Lib.hid hlk
          clear hRr hvb hbs hal hlk hte hr
          go_wp2_with fail
          refine (HRr.out _).mono ?_
          rintro e x2 ⟨rfl, b2⟩
          have gf2 := gf.below hblk b2
          have e0 := gf2.c0; have e1 := gf2.c1; have e2 := gf2.c2
          clear g0 g1 g2
          go_wp2_with fail
          refine (HVb.out _).mono ?_
          rintro e x3 ⟨vx, rfl, hv3, b3⟩
          obtain ⟨g, cap, rfl⟩ := URow.form hv3 hpos
          have hrow3 := (hrow.below b2).below b3
          have hb3 : Below x1.heap.size x1 x3 := btV (btV hbw b2) b3
          have hs3 := hb3.size
          clear e0 e1 e2
          go_wp2_with (at_builtin; refine wpList_append_own _ rfl _ _ 36 rfl x1.heap.size 5 i0 (.int .u8 0) 1 1 Tryd.underlying36 hi hz0 hz1 hz2 rfl (by decide) _ L (bsL (z0.take j) |>.map u8v) rfl hrow3 ⟨g, 0, none⟩ lk cap (bk.map u8v) rfl ?l5 ?a5 ?b5 ?c5 ?d5 ?e5 ?_)
          try (case l5 => rw [List.length_map, Nat.mul_one, HLk.out])
          try (case a5 => exact hv3.cell)
          try (case b5 => exact u8v_one _)
          try (case c5 => unfold maxLen; omega)
          try (case d5 => omega)
          try (case e5 => omega)
          intro v' w4 hown' hgrow _
          have hbw4 : Below x1.heap.size x1 w4 := hb3.grown hgrow (by omega) (fun k' hk' => (World.ownsRow.lt hrow3 k' hk').1)
          go_wp2_with fail
          go_roundw
          case rel =>
            refine ⟨j + 1, L + lk, v', rfl, by go_num, by omega, by omega, ?_, HAl.out, hbw4⟩
            unfold URow
            rw [HBs.out, List.map_append]
            exact hown'
          case measure => simp [intOf]; omega
      · obtain rfl : j = z0.length := by omega
        have htf : z0.take z0.length = z0 := List.take_of_length_le (Nat.le_refl _)
        rw [htf] at hrow
        have hall : ∀ q ∈ z0, rightV q.1 q.2.1 q.2.2 = true := by have := HAll.out; rwa [htf] at this
        have HAl := Lib.hid hall
        have hLL := hrow.len
        clear htf hall
        obtain ⟨A1, c1, rfl, hrd1, hc1⟩ : ∃ A c, v = .slice A L c ∧ RdB wr A (bsL z0) ∧ L ≤ c := by
          have h := hrow
          rw [← hLL] at h
          obtain ⟨A, c, h1, h2, h3⟩ := URow.rd h
          exact ⟨A, c, by rw [h1, hLL], h2, by omega⟩
        have HRd1 := Lib.hid hrd1
        have HLL := Lib.hid hLL
        obtain ⟨wk, hwk⟩ : ∃ x, x = wr := ⟨_, rfl⟩
        subst hwk
        have HBw := Lib.hid (btV b1 hbw)
        clear hrd1 hLL hrow hbw
        go_wp2_with fail
        go_loopw [3, 7] (fun x i wr => ∃ (j : Nat) (A : Option Addr) (bs : List UInt8) (l c : Nat), x = .slice A l c ∧ i = .int .i64 (j : Nat) ∧ j ≤ z0.length ∧ bsL (z0.drop j) = bs ∧ bs.length = l ∧ l ≤ c ∧ RdB wr A bs ∧ Below wk.heap.size wk wr) (fun _ i _ => z0.length - (intOf i).toNat)
        case atStart => exact ⟨0, A1, bsL z0, L, c1, rfl, rfl, by omega, by simp, HLL.out, hc1, HRd1.out, Below.refl _ _⟩
        case round =>
          obtain ⟨j, A, bs, l, c, rfl, rfl, hj, hbs, hbl, hc, hrdb, hbw⟩ := hrel
          have hbq := btV HBw.out hbw
          by_cases hlt : j < z0.length
          · obtain ⟨ad, rfl, hblk, gf⟩ := (HRd.out.below (Nat.le_refl _) hbq).flat hlt
            have hdr : z0.drop j = z0.getD j Val3.no :: z0.drop (j + 1) := by
              rw [List.drop_eq_getElem_cons hlt, List.getD_eq_getElem?_getD, List.getElem?_eq_getElem hlt]
              rfl
            have hmem : z0.getD j Val3.no ∈ z0 := by rw [List.getD_eq_getElem?_getD, List.getElem?_eq_getElem hlt]; exact List.getElem_mem hlt
            have hvi := HIn.out _ hmem
            have hr := HAl.out _ hmem
            obtain ⟨⟨k, n, s⟩, hz⟩ : ∃ z, z0.getD j Val3.no = z := ⟨_, rfl⟩
            rw [hz] at gf hdr hvi hr
            have hn0 := hvi.2.1.1
            have hn1 := hvi.2.1.2
            simp only [] at hn0 hn1 hr
            have hbs2 : bs = bytesR k n s ++ bsL (z0.drop (j + 1)) := by rw [← hbs, hdr]; simp [bsL]
            have htv := takeV_bytes k n s (bsL (z0.drop (j + 1))) hr hn0 hn1
            rw [← hbs2] at htv
            have hpos := bytesR_pos k n s hr
            have hll : bs.length = (bytesR k n s).length + (bsL (z0.drop (j + 1))).length := by rw [hbs2, List.length_append]
            have hbd := bsL_len (z0.drop j) (fun q hq => HAl.out q (List.mem_of_mem_drop hq))
            rw [hbs, List.length_drop] at hbd
            obtain ⟨ab, rfl, hab, _⟩ := hrdb 0 (by omega)
            have hTk := valTake_any (some ab) c bs wr hrdb (by omega) (by omega)
            rw [htv, hbl] at hTk
            rw [hbl] at hll
            generalize bytesR k n s = bk at *
            obtain ⟨m, hm⟩ : ∃ m, bk.length = m := ⟨_, rfl⟩
            rw [hm] at hTk hpos hll
            unfold valV at hTk
            have HTk := Lib.hid hTk; have HBs2 := Lib.hid hbs2; have HM := Lib.hid hm; have HRb := Lib.hid hrdb; have HBl := Lib.hid hbl
            have hne := fun W => neq_val k n s k n s W
            simp only [sameV_self, Bool.not_true] at hne
            unfold valV at hne
            have hml : m ≤ l := by omega
            have hl90 : l ≤ 90000 := by omega
            have HLr : Hid (l - m = (bsL (z0.drop (j + 1))).length) := Lib.hid (by omega)
            clear hTk hbs2 hm hrdb hbl hbs htv hdr hmem hvi hr hz hbd hll
            go_wp2_with fail
            refine HTk.out.mono ?_
            rintro e x4 ⟨rfl, b4⟩
            have hq1 : (1 : Int) ≤ (m : Int) := by omega
            have hq2 : (m : Int) ≤ (l : Int) := by omega
            obtain ⟨r0, r1, r2, q0, q1, q2⟩ := Res.new x4
            have u4 := Box.new x4 k n s
            have b4a : Below wr.heap.size wr (x4.alloc (.cells #[.int .i64 k, .int .i64 n, .string s] 23)) := b4.alloc b4.size _
            have gf4 := gf.below hblk b4a
            have p0 := gf4.c0; have p1 := gf4.c1; have p2 := gf4.c2
            have u0 := u4.c0; have u1 := u4.c1; have u2 := u4.c2
            have hj0 : (0 : Int) ≤ (j : Int) := by omega
            have hj1 : (j : Int) < (z0.length : Int) := by omega
            have hm0 : (0 : Int) ≤ (m : Int) := by omega
            have hlc2 : (l : Int) ≤ (c : Int) := by omega
            go_wp2_with fail
            go_quiet (fail)
            go_wp2_with fail
            go_roundw
            case rel =>
              have hdw : ∀ {a W : World}, Below a.heap.size a W → ∀ n, Below a.heap.size a (W.drewN n) := fun h n => ⟨h.os, h.tape, h.output, h.size, h.block⟩
              have hdq := hdw b4a nq
              refine ⟨j + 1, _, bsL (z0.drop (j + 1)), l - m, c - m, rfl, by go_num, by omega, rfl, HLr.out.symm, by omega, ?_, hdw (btV hbw b4a) nq⟩
              split
              · intro k' hk'
                have := HLr.out
                omega
              · exact (RdB.tail HRb.out HBs2.out HM.out).below (Nat.le_refl _) hdq
            case measure => simp [intOf]; omega
          · obtain rfl : j = z0.length := by omega
            have hb0 : bs = [] := by rw [← hbs, List.drop_eq_nil_of_le (Nat.le_refl _)]; rfl
            subst hb0
            obtain rfl : l = 0 := hbl.symm
            clear hbs hbl hrdb
            go_wp2_with fail
            go_ret
            exact ⟨rfl, btV HBw.out hbw⟩

set_option maxRecDepth 100000 in
theorem lifted (os : Os) (started : os.Started) (H : Type) (enc : TypeId × Value → H) :
    ReturnsInHanded {} Tryd.checked os 8 .any (fun w args => (Rows.valueRowsSpec.pre enc Tryd.prog Tryd.f8 [] false w args ∧ laidMetH Tryd.prog Rows.valueRowsRow.laid w) ∧ sizedMet enc Tryd.prog Tryd.f8 (OpenSpec.ofChange Rows.valueRowsSpec) false w args) (Rows.valueRowsSpec.post enc Tryd.prog Tryd.f8 false true false false) := by
  refine returnsInHanded_of_change_and (C := Tryd.checked) (X := fun w _ => laidMetH Tryd.prog Rows.valueRowsRow.laid w) (fun _ _ _ hh h => h.of_heap hh) own started (by kernel_rfl) Tryd.func8
    (ChangeSpec.witness_shaped (enc := enc) (C := Tryd.checked) (os := os) (X := fun w _ => laidMetH Tryd.prog Rows.valueRowsRow.laid w) false (World.laidAll Tryd.prog os Rows.valueRowsRow.laid) #[.slice none 0 0] 8 (World.laidAll_os _ _ _)
      (World.shaped_of_ZipB (by kernel_rfl) (by kernel_rfl)) (by kernel_rfl) (by kernel_rfl) (by kernel_rfl)
      (by rw [MakeChecks.laidMetH_plain _ _ _ (by kernel_rfl)]; exact laidMet_laidAll _ (by kernel_rfl) (by kernel_rfl))) ?_
  intro W base args ds gs before hval0 hW _ _ hL _
  have hval : ∀ (j : Nat) t v, Tryd.f8.params[j]? = some t → args[j]? = some v → Value.okWide Tryd.prog W .any base t v := hval0
  have hW' := hW
  obtain ⟨p, q, hA0, hV, rfl, hfz, hnd⟩ := hW
  have hA : DataW.TrodAll enc Tryd.prog W 0 (fun _ => true) true Tryd.f8.params.toList args.toList ds p := hA0
  rw [Tryd.params8] at hA hval
  obtain ⟨v0, vs0, d0, ds0, p0, q0, hargs, rfl, rfl, h0, r0⟩ := trodAll_cons hA
  obtain ⟨rfl, rfl, rfl⟩ := trodAll_nil r0
  obtain rfl : args = #[v0] := by cases args; simp_all
  obtain ⟨rfl, rfl⟩ := trodVars_none hV
  obtain ⟨a0, l0, c0, rfl⟩ := okWide_slice Tryd.underlying53 (hval 0 53 v0 rfl rfl)
  have tk0 := h0
  have lt0 : ∀ x ∈ p0, x.block < W.heap.size := by obtain ⟨m, hm⟩ := tk0; exact DataW.trod_lt m _ _ _ hm
  obtain ⟨z0, w0⟩ : ∃ zs, SlcV W a0 l0 c0 zs := by
    obtain ⟨fuel, hf⟩ := h0
    exact open_vals (by simpa [Value.cells] using hf)
  clear hA0 hval0
  rw [MakeChecks.laidMetH_plain _ _ _ (by kernel_rfl)] at hL
  have hT : Std W := std_of_laid hL
  refine (walk a0 l0 c0 z0  W w0 hT).mono fun e W' ⟨he, bel⟩ => ?_
  subst he
  exact ⟨_, rfl, _, _, _, [], _, [], hW', trodAll_mk1 (shut_bool Tryd.underlying4 _), (trodAll_cons_mk (Below.trod laidOut (by kernel_rfl) (of_decide_eq_true (by kernel_rfl)) tk0 bel lt0) trodAll_mk0), rfl, bel.frame _, fun h => by cases h⟩

theorem over : Rows.valueRowsRow.holds Tryd.pinned (OpenSpec.ofChange Rows.valueRowsSpec) :=
  OpenClaim.holds_of_wide 8 Tryd.f8 rfl rfl rfl rfl rfl rfl rfl ⟨rfl, rfl, rfl, rfl, rfl⟩ rfl rfl rfl rfl rfl (by kernel_rfl) Tryd.func8 (by kernel_rfl)
    (of_decide_eq_true (by kernel_rfl)) (by unfold Func.isWrapper; first | (rw [if_pos (by decide +kernel)]; kernel_rfl) | (rw [if_neg (by decide +kernel)]; exact ⟨rfl, rfl⟩))
    (fun os started H enc _ => lifted os started H enc)
theorem proved : Rows.ValueRowsCardSaid :=
  Claim7.holds_tied_plain_at .later [] [.data, .data, .data, .data, .sentinel, .sentinel, .pinned] true _ true
    over (fun _ h => by cases h) (by kernel_rfl) (fun _ h => by cases h) valueRows_row_tie rfl ⟨rfl, rfl⟩ (by kernel_rfl) rfl
    (fun f fn hf hfn => by
      obtain rfl : f = 8 := Option.some.inj ((show Tryd.prog.funcNamed "cobweb/cobweblaw02.ValueRows" = some 8 by kernel_rfl).symm.trans hf) |>.symm
      obtain rfl : fn = Tryd.f8 := (Option.some.inj (Tryd.func8.symm.trans hfn)).symm
      exact ⟨by kernel_rfl, fun j t ht => by
        rw [Tryd.params8] at ht
        have hm : t ∈ [53] := by simpa using Array.mem_of_getElem? ht
        have hall : ([53].all fun u => !Tryd.prog.wantsStandIn u) = true := by kernel_rfl
        exact (show Tryd.prog.wantsStandIn t = false by simpa using List.all_eq_true.1 hall t hm)⟩)
    (by kernel_rfl)
end Go.Proofs.YtkimibppfniejaaDoor.valueRows
