/- A handle that was freed is never live again (P5.3). -/
import Derived.Test.YtomcpjgklecopaaNum
import Derived.Test.YtomcpjgklecopaaArenaIs
import Derived.Test.YtomcpjgklecopaaArenaAwake
import Derived.Test.YtomcpjgklecopaaArenaHeld
import Derived.Test.YtomcpjgklecopaaPass
namespace Go.Proofs.Ytomcpjgklecopaa.arenaOnce
open Go.ChangeShapes Go.WideShapes Go.ChangeAt Go.RowKit
open Go.ChangeMaps (open_string shut_string)
set_option linter.unusedVariables false

set_option maxHeartbeats 40000000 in
set_option maxRecDepth 100000 in
theorem walk (a0 : Int) (a1 : Option Addr) (l1 c1 : Nat) (z1 : List Int) (w0 : (Lit.int .i64 a0).wf = true) (w : World) (w1 : SlcI w a1 l1 c1 z1) :
    Calls Try.prog 4 #[.int .i64 a0, .slice a1 l1 c1] w fun e w' => e = .returned (.bool true) ∧ Below w.heap.size w w' := by
  have he := wf_i64 w0
  obtain ⟨rfl, hlc, hrd, hus⟩ := w1
  have HR := Lib.hid hrd
  have HU := Lib.hid hus
  obtain ⟨C⟩ := arSpec_is
  obtain ⟨q, hq, hq1⟩ := idx_in a0 9 (by decide) (by decide)
  have hc : ((q + 1 : Nat) : Int) = 1 + (q : Int) := by omega
  have hq9 : q < 9 := by omega
  have HC := Lib.hid hc
  clear w0 hrd hus hq1 hc
  go_enter Try.func4, Try.ntmps4
  go_wp2_with fail
  refine (awake_any C _).mono ?_
  rintro e x1 ⟨rfl, b1⟩
  by_cases hbig : 200 < z1.length
  · have hbig2 : (200 : Int) < (z1.length : Int) := by omega
    go_wp2_with fail
    refine (awake_any C _).mono ?_
    rintro e x2 ⟨rfl, b2⟩
    go_wp2_with fail
    go_ret
    exact ⟨rfl, b1.trans (b2.mono b1.size)⟩
  · have hbig2 : ¬ ((200 : Int) < (z1.length : Int)) := by omega
    have hl1 : z1.length ≤ 200 := by omega
    clear hbig
    have n1 := C.new_ (q + 1) x1 (by omega)
    rw [HC.out] at n1
    have HN1 := Lib.hid n1
    clear n1
    go_wp2_with fail
    refine HN1.out.mono ?_
    rintro e x2 ⟨N, S2, rfl, h2, b2⟩
    have B2 := b1.trans (b2.mono b1.size)
    have lo2 : ∀ k, S2 k → w.heap.size ≤ k := fun k hk => Nat.le_trans b1.size (C.foot h2 k hk).1
    have M0 : HeldM C w x1.heap.size N (q + 1) x2 (.slice none 0 0) (.slice none 0 0) [] [] (slotsR (q + 1)) [] S2 := ⟨HRow.nil _ _, HRow.nil _ _, (fun g h => by cases h), (fun g h => by cases h), h2, lo2, B2⟩
    have HM0 := Lib.hid M0
    clear M0 h2 lo2 b2 B2 HN1 hbig2
    go_wp2_with fail
    go_loopw [8, 9, 10] (fun vl vg i wr => ∃ (k : Nat) (vL vG : Value) (live gone fr tk : List H2) (S : Nat → Prop), vl = vL ∧ vg = vG ∧ i = .int .i64 (k : Nat) ∧ k ≤ z1.length ∧ HeldM C w x1.heap.size N (q + 1) wr vL vG live gone fr tk S ∧ OnceI (q + 1) k fr tk live gone ∧ gone.length ≤ k) (fun _ _ i _ => z1.length - (intOf i).toNat)
    case atStart => exact ⟨0, _, _, [], [], _, _, S2, rfl, rfl, rfl, Nat.zero_le _, HM0.out, OnceI.start _, Nat.le_refl _⟩
    case round =>
      clear HM0
      obtain ⟨k, vL, vG, live, gone, fr, tk, S, rfl, rfl, rfl, hk, hM, hI, hgo⟩ := hrel
      obtain ⟨AL, cL, eL, hcL, _, _, _⟩ := hM.rL.rd
      obtain ⟨AG, cG, eG, hcG, _, _, _⟩ := hM.rG.rd
      subst eL
      subst eG
      have HM := Lib.hid hM
      have HI := Lib.hid hI
      have hcnt := hI.count
      have hlv := hI.perm.length_eq
      have hlive : live.length ≤ q + 1 := by omega
      have hbw := hM.bel
      clear hM hI hcnt hlv
      by_cases hlt : k < z1.length
      · obtain ⟨ad, rfl, hblk, hcell⟩ := (HR.out.below (Nat.le_refl _) hbw) k hlt
        have hui := HU.out k hlt
        obtain ⟨u, huu⟩ : ∃ x, z1.getD k 0 = x := ⟨_, rfl⟩
        rw [huu] at hcell hui
        obtain ⟨u0, u1⟩ := hui
        have hlt2 : (k : Int) < (z1.length : Int) := by omega
        clear huu hblk
        go_upto_region 11 with fail
        go_cut [57] (fun s57 wx => s57 = .bool (decide (u.tmod 3 ≠ 0 ∨ live.length = 0)) ∧ wr = wx)
        case first =>
          by_cases c1 : u.tmod 3 = 0
          · by_cases c2 : live.length = 0
            · have c3 : (live.length : Int) = 0 := by omega
              go_wp2_with fail
              go_meet
              case rel => exact ⟨congrArg Value.bool (decide_eq_true (p := (u.tmod 3 ≠ 0 ∨ live.length = 0)) (.inr c2)).symm, rfl⟩
            · have c3 : ¬ (live.length : Int) = 0 := by omega
              go_wp2_with fail
              go_meet
              case rel => exact ⟨congrArg Value.bool ((show ((live.length : Int) == 0) = false from beq_eq_false_iff_ne.2 c3).trans (decide_eq_false (p := (u.tmod 3 ≠ 0 ∨ live.length = 0)) (fun h => h.elim (fun h => h c1) c2)).symm), rfl⟩
          · go_wp2_with fail
            go_meet
            case rel => exact ⟨congrArg Value.bool (decide_eq_true (p := (u.tmod 3 ≠ 0 ∨ live.length = 0)) (.inl c1)).symm, rfl⟩
        case rest =>
          obtain ⟨rfl, rfl⟩ := hcut
          go_upto_if 57 with fail
          go_cut [8, 9] (fun vl vg wx => ∃ (vL vG : Value) (live gone fr tk : List H2) (S : Nat → Prop), vl = vL ∧ vg = vG ∧ HeldM C w x1.heap.size N (q + 1) wx vL vG live gone fr tk S ∧ OnceI (q + 1) (k + 1) fr tk live gone ∧ gone.length ≤ k + 1)
          case first =>
            by_cases hb : u.tmod 3 ≠ 0 ∨ live.length = 0
            · rw [decide_eq_true hb]
              cases fr with
              | nil =>
                have t1 : Calls Try.prog 10 #[.pointer (some ⟨N, 0, none⟩)] wr fun e w' => ∃ S'', e = .returned (.tuple #[.agg #[.int .i64 0, .int .i64 0], .int .i64 50]) ∧ C.At w' x1.heap.size N (q + 1) [] (tk ++ []) S'' ∧ Moved S S'' wr w' := C.take_ HM.out.at_
                rw [List.append_nil] at t1
                have HT1 := Lib.hid t1
                have hfull : ¬ (live.length : Int) < 1 + (q : Int) := by have h1 := HI.out.count; have h2 := HI.out.perm.length_eq; simp only [List.length_nil] at h1; omega
                clear t1 hcell
                go_wp2_with fail
                refine HT1.out.mono ?_
                rintro e y1 ⟨S', rfl, hA1, m1⟩
                have M1 := Lib.hid ((HM.out.moved hA1 m1).alloc (.cells #[.int .i64 0, .int .i64 0] 34))
                clear hA1 m1
                go_wp2_with fail
                go_meet
                case rel => exact ⟨_, _, live, gone, [], tk, S', rfl, rfl, M1.out, HI.out.mono (Nat.le_succ _), by omega⟩
              | cons hh fr' =>
                obtain ⟨ha, hg⟩ := hh
                have t1 : Calls Try.prog 10 #[.pointer (some ⟨N, 0, none⟩)] wr fun e w' => ∃ S'', e = .returned (.tuple #[.agg #[.int .i64 ha, .int .i64 hg], .int .i64 0]) ∧ C.At w' x1.heap.size N (q + 1) fr' (tk ++ [(ha, hg)]) S'' ∧ Moved S S'' wr w' := C.take_ HM.out.at_
                have HT1 := Lib.hid t1
                have hroom : (live.length : Int) < 1 + (q : Int) := by have h1 := HI.out.count; have h2 := HI.out.perm.length_eq; simp only [List.length_cons] at h1; omega
                clear t1 hcell
                go_wp2_with fail
                refine HT1.out.mono ?_
                rintro e y1 ⟨S', rfl, hA1, m1⟩
                have M1 := Lib.hid ((HM.out.moved hA1 m1).alloc (.cells #[.int .i64 ha, .int .i64 hg] 34))
                have xb := Lib.hid ((HM.out.moved hA1 m1).boxH (ha, hg))
                clear hA1 m1
                go_wp2_with fail
                go_loopw [13] (fun i wj => ∃ j : Nat, j ≤ live.length ∧ i = .int .i64 (j : Nat) ∧ Below (y1.alloc (.cells #[.int .i64 ha, .int .i64 hg] 34)).heap.size (y1.alloc (.cells #[.int .i64 ha, .int .i64 hg] 34)) wj) (fun i _ => live.length - (intOf i).toNat)
                case atStart => exact ⟨0, Nat.zero_le _, rfl, Below.refl _ _⟩
                case round =>
                  obtain ⟨j, hj, rfl, hbj⟩ := hrel
                  have M2 := Lib.hid (M1.out.below hbj)
                  obtain ⟨A', c', eA, _, rdL, _, _⟩ := M2.out.rL.rd
                  have e1 : AL = A' := by injection eA
                  subst e1
                  obtain ⟨xc0, xc1⟩ := (xb.out.below hbj).cells
                  dsimp only at xc0 xc1
                  by_cases hjl : j < live.length
                  · obtain ⟨ae, rfl, _, g0, g1⟩ := rdL.at2 hjl
                    have hap := HI.out.apart _ (mem_getD hjl)
                    obtain ⟨y, hy⟩ : ∃ y, live.getD j H2.no = y := ⟨_, rfl⟩
                    rw [hy] at g0 g1 hap
                    obtain ⟨ya, yb⟩ := y
                    dsimp only at g0 g1 hap
                    have hjl2 : (j : Int) < (live.length : Int) := by omega
                    have hne : (ya == ha) = false := beq_eq_false_iff_ne.2 hap
                    clear hy eA rdL g1 xc1
                    go_wp2_with fail
                    go_quiet (fail)
                    go_wp2_with fail
                    go_roundw
                    case rel => exact ⟨j + 1, by omega, by go_num, below_drewH hbj _⟩
                    case measure => simp [intOf]; omega
                  · obtain rfl : j = live.length := by omega
                    clear eA rdL
                    go_wp2_with (at_builtin; refine wpList_append_hands rfl _ _ rfl w.heap.size _ live.length live rfl (M2.out.alloc (.cells #[.int .i64 ha, .int .i64 hg] 34)).rL (some ⟨wr.heap.size, 0, none⟩) 1 1 [(ha, hg)] rfl rfl (rdH_one wr ha hg) ?s2 ?s3 (wr.heap.size + 1) ?s4 ?_)
                    case s2 => simp; omega
                    case s3 => have := M2.out.bel.size; simp; omega
                    case s4 => simp
                    intro v4 w4 r4 g4 l4
                    obtain ⟨A4, cv4, rfl, _, _, _, _⟩ := r4.rd
                    have M4 := Lib.hid ((M2.out.alloc (.cells #[.int .i64 ha, .int .i64 hg] 34)).growL (l := live ++ [(ha, hg)]) (by rw [List.length_append]; exact r4) g4 (H := wr.heap.size + 1) (by simp) l4)
                    clear r4 g4 l4 xc0 xc1
                    go_wp2_with fail
                    go_meet
                    case rel => exact ⟨_, _, live ++ [(ha, hg)], gone, fr', tk ++ [(ha, hg)], S', rfl, rfl, M4.out, (HI.out.take).mono (Nat.le_succ _), by omega⟩
            · rw [decide_eq_false hb]
              have hl0 : live.length ≠ 0 := fun h => hb (.inr h)
              have hl0' : ¬ (live.length : Int) = 0 := by omega
              obtain ⟨x, hx, hxlt⟩ := idx_in u (live.length : Int) (by omega) (by omega)
              have hxl : x < live.length := by omega
              obtain ⟨A', c', eA, _, rdL, _, _⟩ := HM.out.rL.rd
              have e1 : AL = A' := by injection eA
              subst e1
              obtain ⟨ae, rfl, _, g0, g1⟩ := rdL.at2 hxl
              have hperm := perm_without hxl
              obtain ⟨y, hy⟩ : ∃ y, live.getD x H2.no = y := ⟨_, rfl⟩
              rw [hy] at g0 g1 hperm
              obtain ⟨ha, hg⟩ := y
              dsimp only at g0 g1
              have HP := Lib.hid hperm
              have hmem : (ha, hg) ∈ tk := HI.out.perm.mem_iff.1 (hperm.mem_iff.2 List.mem_cons_self)
              have hgen := HI.out.gens
              have hA2 := ((HM.out.alloc (.cells #[.int .i64 ha, .int .i64 hg] 34)).alloc (.cells #[.int .i64 ha, .int .i64 hg] 34)).at_
              have hi64 : I64H ha := C.rng HM.out.at_ (ha, hg) (List.mem_append_right _ hmem)
              have HI64 := Lib.hid hi64
              have f1 := C.free_ (some ⟨(wr.alloc (.cells #[.int .i64 ha, .int .i64 hg] 34)).heap.size, 0, none⟩) 1 [(ha, hg)] hA2 (rdH_one _ ha hg) (fun ad e h => by injection e with e; rw [← e] at h; exact Nat.lt_irrefl _ (C.foot (HM.out.alloc (.cells #[.int .i64 ha, .int .i64 hg] 34)).at_ _ h).2) (Nat.le_refl _) (by simp) (fun z hz => by have := hgen z (List.mem_append_right _ hz); omega) (one64 HI64.out)
              rw [show (wr.alloc (.cells #[.int .i64 ha, .int .i64 hg] 34)).heap.size = wr.heap.size + 1 from by simp] at f1
              have HF1 := Lib.hid f1
              have HMem := Lib.hid hmem
              have xb := Lib.hid (HM.out.boxH (ha, hg))
              obtain ⟨xc0, xc1⟩ := xb.out.cells
              dsimp only at xc0 xc1
              have hxlt2 : (x : Int) < (live.length : Int) := hxlt
              clear f1 hA2 hgen hmem hperm hy eA rdL hi64
              go_wp2_with fail
              refine HF1.out.mono ?_
              rintro e y1 ⟨S', m1, hor⟩
              rcases hor with ⟨hgood, rfl, hA1⟩ | ⟨hbad, _, _⟩
              case inr => exact absurd (goodF_one.2 HMem.out) hbad
              rw [freeR_one] at hA1
              dsimp only at hA1
              have M1 := Lib.hid (((HM.out.alloc (.cells #[.int .i64 ha, .int .i64 hg] 34)).alloc (.cells #[.int .i64 ha, .int .i64 hg] 34)).moved hA1 m1)
              have xb1 := Lib.hid ((xb.out.alloc (.cells #[.int .i64 ha, .int .i64 hg] 34)).moved m1)
              obtain ⟨xd0, xd1⟩ := xb1.out.cells
              dsimp only at xd0 xd1
              have hA2 := (M1.out.alloc (.cells #[.int .i64 ha, .int .i64 hg] 34)).at_
              have hgen := HI.out.gens
              have f2 := C.free_ (some ⟨y1.heap.size, 0, none⟩) 1 [(ha, hg)] hA2 (rdH_one y1 ha hg) (fun ad e h => by injection e with e; rw [← e] at h; exact Nat.lt_irrefl _ (C.foot M1.out.at_ _ h).2) (Nat.le_refl _) (by simp) (fun z hz => by have := hgen z (List.mem_append_right _ (List.mem_filter.1 hz).1); omega) (one64 HI64.out)
              have HF2 := Lib.hid f2
              clear f2 hA2 hgen hgood hA1 m1 xc0 xc1
              go_wp2_with fail
              refine HF2.out.mono ?_
              rintro e y2 ⟨S2', m2, hor⟩
              rcases hor with ⟨hgood, _, _⟩ | ⟨hbad, rfl, hA2⟩
              case inl => exact absurd (goodF_one.1 hgood) (by simp)
              have M2 := Lib.hid ((M1.out.alloc (.cells #[.int .i64 ha, .int .i64 hg] 34)).moved hA2 m2)
              have xb2 := Lib.hid ((xb1.out.alloc (.cells #[.int .i64 ha, .int .i64 hg] 34)).moved m2)
              clear hbad hA2 m2 xd0 xd1
              go_wp2_with fail
              go_cut [8] (fun v8 wx => ∃ vN : Value, v8 = vN ∧ HeldM C w x1.heap.size N (q + 1) wx vN (.slice AG gone.length cG) (live.take x ++ live.drop (x + 1)) gone (bump (ha, hg) :: fr) (tk.filter (fun z => !(decide (z = (ha, hg))))) S2' ∧ Below y2.heap.size y2 wx)
              case first =>
                obtain ⟨A', c', eA, hcL2, rdL, _, _⟩ := M2.out.rL.rd
                have e1 : some ae = A' := by injection eA
                have e2 : cL = c' := by injection eA
                subst e1
                subst e2
                have hxc : (x : Int) ≤ (cL : Int) := by omega
                have hxc1 : (x : Int) + 1 ≤ (cL : Int) := by omega
                have hxl1 : (x : Int) + 1 ≤ (live.length : Int) := by omega
                have hx00 : (0 : Int) ≤ (x : Int) := by omega
                have hx01 : (0 : Int) ≤ (x : Int) + 1 := by omega
                have w1 : IntKind.i64.wrap ((x : Int) + 1) = (x : Int) + 1 := IntWalk.i64_in _ (by omega)
                have hxx : (x : Int) ≤ (x : Int) + 1 := by omega
                have hcm0 := Nat.decEq cL (x + 1)
                by_cases hcm : cL = x + 1
                · subst hcm
                  refine wp_region_held_drew (S := (fun _ => True)) (by kernel_rfl) True.intro (fun hHeld => ?_)
                  refine wpAnyH_take (i := 1) (v := ?_) (by simp only [List.getElem?_toArray, List.getElem?_cons_zero, List.getElem?_cons_succ]; rfl) (by kernel_rfl) (by kernel_rfl) (by kernel_rfl) (by exact fun _ _ _ h => h) (Or.inl ⟨by rfl, ?_⟩) (by assumption) ?_
                  rotate_left
                  · intro w hSw; (try dsimp only at hSw); go_simp; (try with_reducible rfl)
                  try simp only [Act.put, List.setIfInBounds_toArray, List.set_cons_zero, List.set_cons_succ]
                  refine wpAnyH_take (i := 2) (v := ?_) (by simp only [List.getElem?_toArray, List.getElem?_cons_zero, List.getElem?_cons_succ]; rfl) (by kernel_rfl) (by kernel_rfl) (by kernel_rfl) (by exact fun _ _ _ h => h) (Or.inl ⟨by rfl, ?_⟩) (by assumption) ?_
                  rotate_left
                  · intro w hSw; (try dsimp only at hSw); go_simp; (try with_reducible rfl)
                  try simp only [Act.put, List.setIfInBounds_toArray, List.set_cons_zero, List.set_cons_succ]
                  refine wpAnyH_take (i := 5) (v := ?_) (by simp only [List.getElem?_toArray, List.getElem?_cons_zero, List.getElem?_cons_succ]; rfl) (by kernel_rfl) (by kernel_rfl) (by kernel_rfl) (by exact fun _ _ _ h => h) (Or.inl ⟨by rfl, ?_⟩) (by assumption) ?_
                  rotate_left
                  · intro w hSw; (try dsimp only at hSw); go_simp; (try with_reducible rfl)
                  try simp only [Act.put, List.setIfInBounds_toArray, List.set_cons_zero, List.set_cons_succ]
                  refine wpAnyH_take (i := 6) (v := ?_) (by simp only [List.getElem?_toArray, List.getElem?_cons_zero, List.getElem?_cons_succ]; rfl) (by kernel_rfl) (by kernel_rfl) (by kernel_rfl) (by exact fun _ _ _ h => h) (Or.inl ⟨by rfl, ?_⟩) (by assumption) ?_
                  rotate_left
                  · intro w hSw; (try dsimp only at hSw); go_simp; (try with_reducible rfl)
                  try simp only [Act.put, List.setIfInBounds_toArray, List.set_cons_zero, List.set_cons_succ]
                  refine wpAnyH_take (i := 7) (v := ?_) (by simp only [List.getElem?_toArray, List.getElem?_cons_zero, List.getElem?_cons_succ]; rfl) (by kernel_rfl) (by kernel_rfl) (by kernel_rfl) (by exact fun _ _ _ h => h) (Or.inl ⟨by rfl, ?_⟩) (by assumption) ?_
                  rotate_left
                  · intro w hSw; (try dsimp only at hSw); go_simp; (try with_reducible rfl)
                  try simp only [Act.put, List.setIfInBounds_toArray, List.set_cons_zero, List.set_cons_succ]
                  refine wpAnyH_take (i := 3) (v := ?_) (by simp only [List.getElem?_toArray, List.getElem?_cons_zero, List.getElem?_cons_succ]; rfl) (by kernel_rfl) (by kernel_rfl) (by kernel_rfl) (by exact fun _ _ _ h => h) (Or.inl ⟨by rfl, ?_⟩) (by assumption) ?_
                  rotate_left
                  · intro w hSw; (try dsimp only at hSw); go_simp; (try with_reducible rfl)
                  try simp only [Act.put, List.setIfInBounds_toArray, List.set_cons_zero, List.set_cons_succ]
                  refine wpAnyH_take (i := 8) (v := ?_) (by simp only [List.getElem?_toArray, List.getElem?_cons_zero, List.getElem?_cons_succ]; rfl) (by kernel_rfl) (by kernel_rfl) (by kernel_rfl) (by exact fun _ _ _ h => h) (Or.inl ⟨by rfl, ?_⟩) (by assumption) ?_
                  rotate_left
                  · intro w hSw; (try dsimp only at hSw); go_simp; (try with_reducible rfl)
                  try simp only [Act.put, List.setIfInBounds_toArray, List.set_cons_zero, List.set_cons_succ]
                  have hlit : HRow (y2.alloc (.cells #[] 34)).drew y2.heap.size (.slice (some ⟨y2.heap.size, 0, none⟩) 0 0) 0 [] := World.ownsRow_lit (base := y2.heap.size) (e := 34) (size := 2) y2.drew #[] 0 (Nat.le_refl _) (by decide) rfl
                  have rdA := (rdL.only (S := NoB) (((Only.refl _ y2).drew).alloc (.cells #[] 34)) (fun _ _ h => h)).take x
                  have hae := (M2.out.rL.lt ae.block rfl).2
                  refine wpAnyH_ready (rs := [0]) (by kernel_rfl) (by simp) ?_
                  refine AllReadyH.cons (by simp only [List.getElem?_toArray, List.getElem?_cons_zero]; rfl) (fun K hK => ?_) AllReadyH.nil
                  go_simp
                  refine hK.out _ _ (True.intro) (fun hHeld => ?_)
                  clear hK K
                  try simp only [Act.put, List.setIfInBounds_toArray, List.set_cons_zero, List.set_cons_succ]
                  refine wpAnyH_ready (rs := [4]) (by kernel_rfl) (by simp) ?_
                  refine AllReadyH.cons (by simp only [List.getElem?_toArray, List.getElem?_cons_zero, List.getElem?_cons_succ]; rfl) (fun K hK => ?_) AllReadyH.nil
                  rw [if_pos (by rfl)]
                  refine wp_append_hands _ _ rfl y2.heap.size _ 0 [] rfl hlit (some ae) x _ (live.take x) rfl (by rw [List.length_take]; omega) rdA ?r1 ?r2 (y2.alloc (.cells #[] 34)).drew.heap.size rfl ?_
                  case r1 => (try simp) <;> (try omega)
                  case r2 => (try simp [World.drew]) <;> (try omega)
                  intro v6 w6 r6 g6 l6
                  obtain ⟨A6, cv6, rfl, _, _, _, _⟩ := r6.rd
                  refine hK.out _ _ True.intro (fun hHeld => ?_)
                  clear hK K
                  try simp only [Act.put, List.setIfInBounds_toArray, List.set_cons_zero, List.set_cons_succ]
                  have o6 : Only (fun k => k = y2.heap.size) y2 w6 := (((Only.refl _ y2).drew).alloc (.cells #[] 34)).grown g6 (fun k hk => .inl (by injection hk with hk; exact hk.symm))
                  have s6 := o6.size
                  have rd6 := rdL.only o6 (fun ad e h => by injection e with e; rw [← e] at h; omega)
                  refine wpAnyH_ready (rs := [9]) (by kernel_rfl) (by simp) ?_
                  refine AllReadyH.cons (by simp only [List.getElem?_toArray, List.getElem?_cons_zero, List.getElem?_cons_succ]; rfl) (fun K hK => ?_) AllReadyH.nil
                  rw [if_pos (by rfl)]
                  refine wp_append_hands _ _ rfl y2.heap.size _ (0 + x) ([] ++ live.take x) rfl r6 _ _ _ [] rfl (by simp <;> omega) (RdH.nothing _) ?r1 ?r2 w6.heap.size rfl ?_
                  case r1 => (try simp) <;> (try omega)
                  case r2 => (try simp [World.drew]) <;> (try omega)
                  intro v7 w7 r7 g7 l7
                  obtain ⟨A7, cv7, rfl, _, _, _, _⟩ := r7.rd
                  refine hK.out _ _ True.intro (fun hHeld => ?_)
                  clear hK K
                  try simp only [Act.put, List.setIfInBounds_toArray, List.set_cons_zero, List.set_cons_succ]
                  refine wpAnyH_take (i := 10) (v := ?_) (by simp only [List.getElem?_toArray, List.getElem?_cons_zero, List.getElem?_cons_succ]; rfl) (by kernel_rfl) (by kernel_rfl) (by kernel_rfl) (by exact fun _ _ _ h => h) (Or.inl ⟨by rfl, ?_⟩) (by assumption) ?_
                  rotate_left
                  · intro w hSw; (try dsimp only at hSw); go_simp; (try with_reducible rfl)
                  try simp only [Act.put, List.setIfInBounds_toArray, List.set_cons_zero, List.set_cons_succ]
                  refine wpAnyH_done (by kernel_rfl) ?_ _
                  have o7 : Only (fun k => y2.heap.size ≤ k) y2 w7 := (o6.mono (fun k hk => by omega)).grown g7 (fun k hk => .inl (r6.lt k hk).1)
                  have b7 : Below y2.heap.size y2 w7 := o7.below (Nat.le_refl _) (fun _ h => h)
                  have el : ([] ++ live.take x) ++ [] = live.take x ++ live.drop (x + 1) := by rw [List.drop_eq_nil_of_le (by omega), List.nil_append]
                  rw [el] at r7
                  simp only [Nat.zero_add, Nat.add_zero] at r7
                  have M7 := Lib.hid (M2.out.newL b7 r7.self)
                  clear r6 r7 g6 g7 l6 l7 rd6 rdA rdL hlit
                  go_wp2_with fail
                  go_meet
                  case rel => exact ⟨_, rfl, M7.out, b7⟩
                · have hcm2 : ¬ ((cL : Int) = (x : Int) + 1) := by omega
                  refine wp_region_held_drew (S := (fun _ => True)) (by kernel_rfl) True.intro (fun hHeld => ?_)
                  refine wpAnyH_take (i := 1) (v := ?_) (by simp only [List.getElem?_toArray, List.getElem?_cons_zero, List.getElem?_cons_succ]; rfl) (by kernel_rfl) (by kernel_rfl) (by kernel_rfl) (by exact fun _ _ _ h => h) (Or.inl ⟨by rfl, ?_⟩) (by assumption) ?_
                  rotate_left
                  · intro w hSw; (try dsimp only at hSw); go_simp; (try with_reducible rfl)
                  try simp only [Act.put, List.setIfInBounds_toArray, List.set_cons_zero, List.set_cons_succ]
                  refine wpAnyH_take (i := 2) (v := ?_) (by simp only [List.getElem?_toArray, List.getElem?_cons_zero, List.getElem?_cons_succ]; rfl) (by kernel_rfl) (by kernel_rfl) (by kernel_rfl) (by exact fun _ _ _ h => h) (Or.inl ⟨by rfl, ?_⟩) (by assumption) ?_
                  rotate_left
                  · intro w hSw; (try dsimp only at hSw); go_simp; (try with_reducible rfl)
                  try simp only [Act.put, List.setIfInBounds_toArray, List.set_cons_zero, List.set_cons_succ]
                  refine wpAnyH_take (i := 5) (v := ?_) (by simp only [List.getElem?_toArray, List.getElem?_cons_zero, List.getElem?_cons_succ]; rfl) (by kernel_rfl) (by kernel_rfl) (by kernel_rfl) (by exact fun _ _ _ h => h) (Or.inl ⟨by rfl, ?_⟩) (by assumption) ?_
                  rotate_left
                  · intro w hSw; (try dsimp only at hSw); go_simp; (try with_reducible rfl)
                  try simp only [Act.put, List.setIfInBounds_toArray, List.set_cons_zero, List.set_cons_succ]
                  refine wpAnyH_take (i := 6) (v := ?_) (by simp only [List.getElem?_toArray, List.getElem?_cons_zero, List.getElem?_cons_succ]; rfl) (by kernel_rfl) (by kernel_rfl) (by kernel_rfl) (by exact fun _ _ _ h => h) (Or.inl ⟨by rfl, ?_⟩) (by assumption) ?_
                  rotate_left
                  · intro w hSw; (try dsimp only at hSw); go_simp; (try with_reducible rfl)
                  try simp only [Act.put, List.setIfInBounds_toArray, List.set_cons_zero, List.set_cons_succ]
                  refine wpAnyH_take (i := 7) (v := ?_) (by simp only [List.getElem?_toArray, List.getElem?_cons_zero, List.getElem?_cons_succ]; rfl) (by kernel_rfl) (by kernel_rfl) (by kernel_rfl) (by exact fun _ _ _ h => h) (Or.inl ⟨by rfl, ?_⟩) (by assumption) ?_
                  rotate_left
                  · intro w hSw; (try dsimp only at hSw); go_simp; (try with_reducible rfl)
                  try simp only [Act.put, List.setIfInBounds_toArray, List.set_cons_zero, List.set_cons_succ]
                  refine wpAnyH_take (i := 3) (v := ?_) (by simp only [List.getElem?_toArray, List.getElem?_cons_zero, List.getElem?_cons_succ]; rfl) (by kernel_rfl) (by kernel_rfl) (by kernel_rfl) (by exact fun _ _ _ h => h) (Or.inl ⟨by rfl, ?_⟩) (by assumption) ?_
                  rotate_left
                  · intro w hSw; (try dsimp only at hSw); go_simp; (try with_reducible rfl)
                  try simp only [Act.put, List.setIfInBounds_toArray, List.set_cons_zero, List.set_cons_succ]
                  refine wpAnyH_take (i := 8) (v := ?_) (by simp only [List.getElem?_toArray, List.getElem?_cons_zero, List.getElem?_cons_succ]; rfl) (by kernel_rfl) (by kernel_rfl) (by kernel_rfl) (by exact fun _ _ _ h => h) (Or.inl ⟨by rfl, ?_⟩) (by assumption) ?_
                  rotate_left
                  · intro w hSw; (try dsimp only at hSw); go_simp; (try with_reducible rfl)
                  try simp only [Act.put, List.setIfInBounds_toArray, List.set_cons_zero, List.set_cons_succ]
                  have hlit : HRow (y2.alloc (.cells #[] 34)).drew y2.heap.size (.slice (some ⟨y2.heap.size, 0, none⟩) 0 0) 0 [] := World.ownsRow_lit (base := y2.heap.size) (e := 34) (size := 2) y2.drew #[] 0 (Nat.le_refl _) (by decide) rfl
                  have rdA := (rdL.only (S := NoB) (((Only.refl _ y2).drew).alloc (.cells #[] 34)) (fun _ _ h => h)).take x
                  have hae := (M2.out.rL.lt ae.block rfl).2
                  refine wpAnyH_ready (rs := [0]) (by kernel_rfl) (by simp) ?_
                  refine AllReadyH.cons (by simp only [List.getElem?_toArray, List.getElem?_cons_zero]; rfl) (fun K hK => ?_) AllReadyH.nil
                  go_simp
                  refine hK.out _ _ (True.intro) (fun hHeld => ?_)
                  clear hK K
                  try simp only [Act.put, List.setIfInBounds_toArray, List.set_cons_zero, List.set_cons_succ]
                  refine wpAnyH_ready (rs := [4]) (by kernel_rfl) (by simp) ?_
                  refine AllReadyH.cons (by simp only [List.getElem?_toArray, List.getElem?_cons_zero, List.getElem?_cons_succ]; rfl) (fun K hK => ?_) AllReadyH.nil
                  rw [if_pos (by rfl)]
                  refine wp_append_hands _ _ rfl y2.heap.size _ 0 [] rfl hlit (some ae) x _ (live.take x) rfl (by rw [List.length_take]; omega) rdA ?r1 ?r2 (y2.alloc (.cells #[] 34)).drew.heap.size rfl ?_
                  case r1 => (try simp) <;> (try omega)
                  case r2 => (try simp [World.drew]) <;> (try omega)
                  intro v6 w6 r6 g6 l6
                  obtain ⟨A6, cv6, rfl, _, _, _, _⟩ := r6.rd
                  refine hK.out _ _ True.intro (fun hHeld => ?_)
                  clear hK K
                  try simp only [Act.put, List.setIfInBounds_toArray, List.set_cons_zero, List.set_cons_succ]
                  have o6 : Only (fun k => k = y2.heap.size) y2 w6 := (((Only.refl _ y2).drew).alloc (.cells #[] 34)).grown g6 (fun k hk => .inl (by injection hk with hk; exact hk.symm))
                  have s6 := o6.size
                  have rd6 := rdL.only o6 (fun ad e h => by injection e with e; rw [← e] at h; omega)
                  refine wpAnyH_ready (rs := [9]) (by kernel_rfl) (by simp) ?_
                  refine AllReadyH.cons (by simp only [List.getElem?_toArray, List.getElem?_cons_zero, List.getElem?_cons_succ]; rfl) (fun K hK => ?_) AllReadyH.nil
                  rw [if_pos (by rfl)]
                  refine wp_append_hands _ _ rfl y2.heap.size _ (0 + x) ([] ++ live.take x) rfl r6 (some (ae.add ((x + 1) * 2))) _ _ (live.drop (x + 1)) rfl (by rw [List.length_drop]; try omega) (rd6.drop (x + 1)) ?r1 ?r2 w6.heap.size rfl ?_
                  case r1 => (try simp) <;> (try omega)
                  case r2 => (try simp [World.drew]) <;> (try omega)
                  intro v7 w7 r7 g7 l7
                  obtain ⟨A7, cv7, rfl, _, _, _, _⟩ := r7.rd
                  refine hK.out _ _ True.intro (fun hHeld => ?_)
                  clear hK K
                  try simp only [Act.put, List.setIfInBounds_toArray, List.set_cons_zero, List.set_cons_succ]
                  refine wpAnyH_take (i := 10) (v := ?_) (by simp only [List.getElem?_toArray, List.getElem?_cons_zero, List.getElem?_cons_succ]; rfl) (by kernel_rfl) (by kernel_rfl) (by kernel_rfl) (by exact fun _ _ _ h => h) (Or.inl ⟨by rfl, ?_⟩) (by assumption) ?_
                  rotate_left
                  · intro w hSw; (try dsimp only at hSw); go_simp; (try with_reducible rfl)
                  try simp only [Act.put, List.setIfInBounds_toArray, List.set_cons_zero, List.set_cons_succ]
                  refine wpAnyH_done (by kernel_rfl) ?_ _
                  have o7 : Only (fun k => y2.heap.size ≤ k) y2 w7 := (o6.mono (fun k hk => by omega)).grown g7 (fun k hk => .inl (r6.lt k hk).1)
                  have b7 : Below y2.heap.size y2 w7 := o7.below (Nat.le_refl _) (fun _ h => h)
                  have el : ([] ++ live.take x) ++ live.drop (x + 1) = live.take x ++ live.drop (x + 1) := by rw [List.nil_append]
                  rw [el] at r7
                  simp only [Nat.zero_add] at r7
                  have M7 := Lib.hid (M2.out.newL b7 r7.self)
                  clear r6 r7 g6 g7 l6 l7 rd6 rdA rdL hlit
                  go_wp2_with fail
                  go_meet
                  case rel => exact ⟨_, rfl, M7.out, b7⟩
              case rest =>
                obtain ⟨vN, rfl, M5, b5⟩ := hcut
                have hP2 := HP.out
                obtain ⟨l5, hl5⟩ : ∃ l, l = live.take x ++ live.drop (x + 1) := ⟨_, rfl⟩
                rw [← hl5] at M5 hP2
                have HP2 := Lib.hid hP2
                clear hP2 hl5
                obtain ⟨AN, cN, eN, _, _, _, _⟩ := M5.rL.rd
                subst eN
                have HM5 := Lib.hid M5
                have xb5 := Lib.hid (xb2.out.below b5)
                obtain ⟨xe0, xe1⟩ := xb5.out.cells
                dsimp only at xe0 xe1
                clear M5 b5
                go_wp2_with (at_builtin; refine wpList_append_hands rfl _ _ rfl w.heap.size _ gone.length gone rfl (HM5.out.alloc (.cells #[.int .i64 ha, .int .i64 hg] 34)).rG (some ⟨wc.heap.size, 0, none⟩) 1 1 [(ha, hg)] rfl rfl (rdH_one wc ha hg) ?s2 ?s3 (wc.heap.size + 1) ?s4 ?_)
                case s2 => simp; omega
                case s3 => have := HM5.out.bel.size; simp; omega
                case s4 => simp
                intro v4 w4 r4 g4 l4
                obtain ⟨A4, cv4, rfl, _, _, _, _⟩ := r4.rd
                have M6 := Lib.hid ((HM5.out.alloc (.cells #[.int .i64 ha, .int .i64 hg] 34)).growG (l := gone ++ [(ha, hg)]) (by rw [List.length_append]; exact r4) g4 (H := wc.heap.size + 1) (by simp) l4)
                clear r4 g4 l4 xe0 xe1
                go_wp2_with fail
                go_meet
                case rel => exact ⟨_, _, l5, gone ++ [(ha, hg)], _, _, S2', rfl, rfl, M6.out, HI.out.free HP2.out, by simp; omega⟩
          case rest =>
            obtain ⟨vL, vG, live, gone, fr, tk, S, rfl, rfl, hM, hI, hgo⟩ := hcut
            obtain ⟨AL2, cL2, eL, _, _, _, _⟩ := hM.rL.rd
            obtain ⟨AG2, cG2, eG, _, _, _, _⟩ := hM.rG.rd
            subst eL
            subst eG
            have HM2 := Lib.hid hM
            have HI2 := Lib.hid hI
            clear hM hI hcell
            go_wp2_with fail
            go_loopw [16] (fun i wj => ∃ j : Nat, j ≤ gone.length ∧ i = .int .i64 (j : Nat) ∧ Below wc.heap.size wc wj) (fun i _ => gone.length - (intOf i).toNat)
            case atStart => exact ⟨0, Nat.zero_le _, rfl, Below.refl _ _⟩
            case round =>
              obtain ⟨j, hj, rfl, hbj⟩ := hrel
              have M2 := Lib.hid (HM2.out.below hbj)
              obtain ⟨A', c', eA, _, rdG, _, _⟩ := M2.out.rG.rd
              have e1 : AG2 = A' := by injection eA
              subst e1
              by_cases hjl : j < gone.length
              · obtain ⟨ae, rfl, _, g0, g1⟩ := rdG.at2 hjl
                have hdead := HI2.out.dead _ (mem_getD hjl)
                obtain ⟨yb0, hyb, hye⟩ := HI2.out.back _ (mem_getD hjl)
                have hy64 := C.rng M2.out.at_ yb0 hyb
                rw [hye] at hy64
                obtain ⟨y, hy⟩ : ∃ y, gone.getD j H2.no = y := ⟨_, rfl⟩
                rw [hy] at g0 g1 hdead hy64
                have l1 := C.live_ y hy64 M2.out.at_
                rw [decide_eq_false hdead] at l1
                obtain ⟨ya, yb⟩ := y
                unfold handV at l1
                dsimp only at g0 g1 l1
                have HL1 := Lib.hid l1
                have hjl2 : (j : Int) < (gone.length : Int) := by omega
                clear hy eA rdG l1 hdead hy64 hyb hye
                go_wp2_with fail
                refine HL1.out.mono ?_
                rintro e y1 ⟨rfl, b1⟩
                go_wp2_with fail
                go_roundw
                case rel => exact ⟨j + 1, by omega, by go_num, hbj.trans (b1.mono hbj.size)⟩
                case measure => simp [intOf]; omega
              · obtain rfl : j = gone.length := by omega
                clear eA rdG
                go_wp2_with fail
                go_roundw
                case rel => exact ⟨k + 1, _, _, live, gone, fr, tk, S, rfl, rfl, by go_num, by omega, M2.out, HI2.out, hgo⟩
                case measure => simp [intOf]; omega
      · obtain rfl : k = z1.length := by omega
        have l1 := C.len_ HM.out.at_
        have hlen := HI.out.perm.length_eq
        rw [← hlen] at l1
        have HL1 := Lib.hid l1
        clear l1 hlen
        go_wp2_with fail
        refine HL1.out.mono ?_
        rintro e y1 ⟨rfl, e1⟩
        go_wp2_with fail
        go_ret
        exact ⟨rfl, hbw.trans (e1.mono hbw.size)⟩

set_option maxRecDepth 100000 in
theorem lifted (os : Os) (started : os.Started) (H : Type) (enc : TypeId × Value → H) :
    ReturnsInHanded {} Try.checked os 4 .any (Rows.arenaOnceSpec.pre6 enc Try.prog Try.f4 Rows.arenaOnceRow.domain false) (Rows.arenaOnceSpec.post enc Try.prog Try.f4 false true false false) := by
  refine returnsInHanded_of_change (C := Try.checked) own started (by kernel_rfl) Try.func4
    (ChangeSpec.witness6 (enc := enc) (C := Try.checked) false ⟨#[], #[.int .i64 0, .slice none 0 0], []⟩ 8 (by kernel_rfl) (by kernel_rfl) (by kernel_rfl) (by kernel_rfl)) ?_
  intro W base args ds gs before hval0 hW hcnd _
  have hval : ∀ (j : Nat) t v, Try.f4.params[j]? = some t → args[j]? = some v → Value.okWide Try.prog W .any base t v := hval0
  have hW' := hW
  obtain ⟨p, q, hA0, hV, rfl, hfz, hnd⟩ := hW
  have hA : DataW.TrodAll enc Try.prog W 0 (fun _ => true) true Try.f4.params.toList args.toList ds p := hA0
  rw [Try.params4] at hA hval
  obtain ⟨v0, vs0, d0, ds0, p0, q0, hargs, rfl, rfl, h0, r0⟩ := trodAll_cons hA
  obtain ⟨v1, vs1, d1, ds1, p1, q1, rfl, rfl, rfl, h1, r1⟩ := trodAll_cons r0
  obtain ⟨rfl, rfl, rfl⟩ := trodAll_nil r1
  obtain rfl : args = #[v0, v1] := by cases args; simp_all
  obtain ⟨rfl, rfl⟩ := trodVars_none hV
  obtain ⟨a0, rfl, rfl, rfl, w0⟩ := open_int Try.underlying3 (hval 0 3 v0 rfl rfl) h0
  obtain ⟨a1, l1, c1, rfl⟩ := okWide_slice Try.underlying50 (hval 1 50 v1 rfl rfl)
  have k1 := h1
  have lt1 : ∀ x ∈ p1, x.block < W.heap.size := by obtain ⟨m, hm⟩ := k1; exact DataW.trod_lt m _ _ _ hm
  obtain ⟨z1, w1⟩ : ∃ zs, SlcI W a1 l1 c1 zs := by
    obtain ⟨fuel, hf⟩ := h1
    rcases open_ints Try.underlying50 Try.underlying3 (by kernel_rfl) hf with ⟨hcs, _⟩ | ⟨x, l, c, zs, hcs, _, hl, hm, hz, _, hcell, hwz⟩
    · simp [Value.cells] at hcs
      obtain ⟨rfl, rfl, rfl⟩ := hcs
      exact ⟨[], SlcI.none_ W⟩
    · simp [Value.cells] at hcs
      obtain ⟨rfl, rfl, rfl⟩ := hcs
      exact ⟨_, SlcI.some_ hl (by simpa using hz) hcell hwz⟩
  clear hA0 hval0
  refine (walk a0 a1 l1 c1 z1 w0 W w1).mono fun e W' ⟨he, bel⟩ => ?_
  subst he
  exact ⟨_, rfl, _, _, _, [], _, [], hW', trodAll_mk1 (shut_bool Try.underlying4 _), (trodAll_cons_mk (shut_int Try.underlying3 w0) (trodAll_cons_mk (Below.trod laidOut (by kernel_rfl) (of_decide_eq_true (by kernel_rfl)) k1 bel lt1) trodAll_mk0)), rfl, bel.frame _, fun h => by cases h⟩

theorem over : Rows.arenaOnceRow.holds Try.pinned (OpenSpec.ofChange Rows.arenaOnceSpec) :=
  OpenClaim.holds_of_wide 4 Try.f4 rfl rfl rfl rfl rfl rfl rfl ⟨rfl, rfl, rfl, rfl, rfl⟩ rfl rfl rfl rfl rfl (by kernel_rfl) Try.func4 (by kernel_rfl)
    (of_decide_eq_true (by kernel_rfl)) (by unfold Func.isWrapper; first | (rw [if_pos (by decide +kernel)]; kernel_rfl) | (rw [if_neg (by decide +kernel)]; exact ⟨rfl, rfl⟩))
    (fun os started H enc _ => lifted os started H enc)
theorem proved : Rows.ArenaOnceSaid := over
end Go.Proofs.Ytomcpjgklecopaa.arenaOnce
