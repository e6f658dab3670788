/- The greatest stamp of several does not hang on their order, their locks, or how they are grouped (P4.1, P4.3). -/
import Derived.Test.YtphbckddcckgdaaOpenN
import Derived.Test.YtphbckddcckgdaaWordRows
namespace Go.Proofs.Ytphbckddcckgdaa.wordMosts
open Go.ChangeShapes Go.WideShapes Go.ChangeAt Go.RowKit
open Go.ChangeMaps (open_string shut_string)
set_option linter.unusedVariables false

set_option maxHeartbeats 40000000 in
set_option maxRecDepth 100000 in
theorem walk (a0 : Option Addr) (l0 c0 : Nat) (z0 : List Int) (a1 : Option Addr) (l1 c1 : Nat) (z1 : List Int) (a2 : Int) (w2 : (Lit.int .u64 a2).wf = true) (w : World) (w0 : SlcU w a0 l0 c0 z0) (w1 : SlcU w a1 l1 c1 z1) :
    Calls Try.prog 8 #[.slice a0 l0 c0, .slice a1 l1 c1, .int .u64 a2] w fun e w' => e = .returned (.bool true) ∧ Below w.heap.size w w' := by
  have hx := wf_u64 w2
  obtain ⟨rfl, hlc0, hrd0, hu0⟩ := w0
  obtain ⟨rfl, hlc1, hrd1, hu1⟩ := w1
  have HR0 := Lib.hid hrd0
  have HR1 := Lib.hid hrd1
  have HU0 := Lib.hid hu0
  have HU1 := Lib.hid hu1
  have hma : mostW (z0 ++ z1) = max (mostW z0) (mostW z1) := most_append z0 z1
  have hmb : mostW (z1 ++ z0) = max (mostW z0) (mostW z1) := by rw [most_append]; omega
  have s0 := stamp_most hu0
  have s1 := stamp_most hu1
  have i0 := most_in hu0
  have i1 := most_in hu1
  have hm2 : mostW [mostW z0, mostW z1] = max (mostW z0) (mostW z1) := by
    show max (max 0 (stampW (mostW z0))) (stampW (mostW z1)) = _
    rw [s0, s1]; omega
  have f3 := (lockTo_facts hx).2.2
  have k3 := (absent_facts hx true).2.2
  have st0 := (stampW_in hx).1
  have hml : mostW [lockTo a2] = stampW a2 := by
    show max 0 (stampW (lockTo a2)) = _
    rw [f3]; omega
  have hmz : mostW [absentW a2 true, a2] = stampW a2 := by
    show max (max 0 (stampW (absentW a2 true))) (stampW a2) = _
    rw [k3]; omega
  have hum := words_two (x := mostW z0) (y := mostW z1) ⟨i0.1, by omega⟩ ⟨i1.1, by omega⟩
  have hul := words_one (lockTo_in hx)
  have huz := words_two (absent_in hx true) hx
  have cL : ∀ W, Calls Try.prog 16 #[.int .u64 a2] W fun r w' => r = .returned (.tuple #[.int .u64 (lockTo a2), .bool (!lockW a2)]) ∧ Below W.heap.size W w' := fun W => wordLock_any a2 W hx
  have cA := fun W => wordAbsent_any a2 true W hx
  have cS := fun W => wordStamp_any a2 W hx
  have HML := Lib.hid hml; have HMZ := Lib.hid hmz; have HM2 := Lib.hid hm2; have HMA := Lib.hid hma; have HMB := Lib.hid hmb
  have HUM := Lib.hid hum; have HUL := Lib.hid hul; have HUZ := Lib.hid huz
  have CL := Lib.hid cL; have CA := Lib.hid cA; have CS := Lib.hid cS
  obtain ⟨mm, hmm⟩ : ∃ x, max (mostW z0) (mostW z1) = x := ⟨_, rfl⟩
  rw [hmm] at HMA HMB HM2
  obtain ⟨p0, hp0⟩ : ∃ x, mostW z0 = x := ⟨_, rfl⟩
  obtain ⟨p1, hp1⟩ : ∃ x, mostW z1 = x := ⟨_, rfl⟩
  rw [hp0, hp1] at HM2 HUM
  have HP0 := Lib.hid hp0; have HP1 := Lib.hid hp1
  generalize hlk : lockTo a2 = lx at *
  generalize hab : absentW a2 true = ax at *
  generalize hst : stampW a2 = sx at *
  generalize hlb : lockW a2 = lb at *
  clear w2 hrd0 hrd1 hu0 hu1 hma hmb s0 s1 i0 i1 hm2 f3 k3 st0 hml hmz hum hul huz cL cA cS hmm hp0 hp1 hlk hab hst hlb
  have e1 : (mm == mm) = true := by simp
  have e2 : (sx == sx) = true := by simp
  go_enter Try.func8, Try.ntmps8
  go_wp2_with fail
  refine (awake_any _).mono ?_
  rintro e x1 ⟨rfl, b1⟩
  by_cases hbig0 : 100 < z0.length
  · have hbig2 : (100 : Int) < (z0.length : Int) := by omega
    go_wp2_with fail
    refine (awake_any _).mono ?_
    rintro e y9 ⟨rfl, d9⟩
    go_wp2_with fail
    go_ret
    exact ⟨rfl, btW b1 d9⟩
  · have hn0 : ¬ ((100 : Int) < (z0.length : Int)) := by omega
    by_cases hbig1 : 100 < z1.length
    · have hbig2 : (100 : Int) < (z1.length : Int) := by omega
      go_wp2_with fail
      refine (awake_any _).mono ?_
      rintro e y9 ⟨rfl, d9⟩
      go_wp2_with fail
      go_ret
      exact ⟨rfl, btW b1 d9⟩
    · have hn1 : ¬ ((100 : Int) < (z1.length : Int)) := by omega
      have hl0 : z0.length ≤ 100 := by omega
      have hl1 : z1.length ≤ 100 := by omega
      clear hbig0 hbig1
      go_wp2_with (at_builtin; refine wpList_append_words rfl _ _ rfl x1.heap.size _ 0 [] rfl (litU x1) a0 c0 z0 rfl (HR0.out.below (Nat.le_refl _) (b1.alloc b1.size _)) (by omega) (by simp) ?_)
      intro v3 w3 r3 d3
      clear hn0 hn1
      have D3 : Below x1.heap.size x1 w3 := ((Below.refl x1.heap.size x1).alloc (Nat.le_refl _) _).trans d3
      have B3 := btW b1 D3
      try rw [Nat.zero_add, List.nil_append] at r3
      go_wp2_with (at_builtin; refine wpList_append_words rfl _ _ rfl x1.heap.size _ z0.length z0 rfl r3 a1 c1 z1 rfl (HR1.out.below (Nat.le_refl _) B3) (by omega) D3.size ?_)
      intro v4 w4 r4 d4
      have B4 := btW b1 (D3.trans d4)
      rw [← List.length_append] at r4
      obtain ⟨A4, c4, rfl, rd4, hc4⟩ := r4.rd
      have HR4 := Lib.hid rd4
      clear r3 r4 rd4
      go_wp2_with (at_builtin; refine wpList_append_words rfl _ _ rfl w4.heap.size _ 0 [] rfl (litU w4) a1 c1 z1 rfl (HR1.out.below (Nat.le_refl _) (B4.alloc B4.size _)) (by omega) (by simp) ?_)
      intro v5 w5 r5 d5
      have D5 : Below w4.heap.size w4 w5 := ((Below.refl w4.heap.size w4).alloc (Nat.le_refl _) _).trans d5
      have B5 := btW B4 D5
      try rw [Nat.zero_add, List.nil_append] at r5
      go_wp2_with (at_builtin; refine wpList_append_words rfl _ _ rfl w4.heap.size _ z1.length z1 rfl r5 a0 c0 z0 rfl (HR0.out.below (Nat.le_refl _) B5) (by omega) D5.size ?_)
      intro v6 w6 r6 d6
      have D6 : Below w4.heap.size w4 w6 := D5.trans d6
      have B6 := btW B4 D6
      rw [← List.length_append] at r6
      obtain ⟨A6, c6, rfl, rd6, hc6⟩ := r6.rd
      have HR6 := Lib.hid rd6
      have HR4' := Lib.hid (HR4.out.below (Nat.le_refl _) D6)
      clear r5 r6 rd6
      go_wp2_with fail
      refine (CL.out _).mono ?_
      rintro e w7 ⟨rfl, d7⟩
      have B7 := btW B6 d7
      have cM1 := wordMost_any A4 c4 (z0 ++ z1) w7 (HR4'.out.below (Nat.le_refl _) d7) (words_append HU0.out HU1.out) hc4 (by rw [List.length_append]; omega)
      rw [List.length_append, HMA.out] at cM1
      have CM1 := Lib.hid cM1
      clear cM1
      go_wp2_with fail
      refine CM1.out.mono ?_
      rintro e y1 ⟨rfl, d8⟩
      have B8 := btW B7 d8
      have D8 := btW d7 d8
      have cM2 := wordMost_any A6 c6 (z1 ++ z0) y1 (HR6.out.below (Nat.le_refl _) D8) (words_append HU1.out HU0.out) hc6 (by rw [List.length_append]; omega)
      rw [List.length_append, HMB.out] at cM2
      have CM2 := Lib.hid cM2
      clear cM2
      go_wp2_with fail
      refine CM2.out.mono ?_
      rintro e y2 ⟨rfl, d9⟩
      have B9 := btW B8 d9
      have D9 := btW D8 d9
      have cM3 := wordMost_any A4 c4 (z0 ++ z1) y2 (HR4'.out.below (Nat.le_refl _) D9) (words_append HU0.out HU1.out) hc4 (by rw [List.length_append]; omega)
      rw [List.length_append, HMA.out] at cM3
      have CM3 := Lib.hid cM3
      clear cM3
      go_wp2_with fail
      refine CM3.out.mono ?_
      rintro e y3 ⟨rfl, d10⟩
      have B10 := btW B9 d10
      have cM4 := wordMost_any a0 c0 z0 y3 (HR0.out.below (Nat.le_refl _) B10) HU0.out hlc0 (by omega)
      rw [HP0.out] at cM4
      have CM4 := Lib.hid cM4
      clear cM4
      go_wp2_with fail
      refine CM4.out.mono ?_
      rintro e y4 ⟨rfl, d11⟩
      have B11 := btW B10 d11
      have cM5 := wordMost_any a1 c1 z1 y4 (HR1.out.below (Nat.le_refl _) B11) HU1.out hlc1 (by omega)
      rw [HP1.out] at cM5
      have CM5 := Lib.hid cM5
      clear cM5
      go_wp2_with fail
      refine CM5.out.mono ?_
      rintro e y5 ⟨rfl, d12⟩
      have B12 := btW B11 d12
      have cM6 := wordMost_any (some ⟨y5.heap.size, 0, none⟩) 2 [p0, p1] (y5.alloc (.cells #[.int .u64 p0, .int .u64 p1] 24)) (rdU_two y5 p0 p1) HUM.out (by simp) (by simp)
      rw [HM2.out] at cM6
      have CM6 := Lib.hid cM6
      clear cM6
      go_wp2_with fail
      refine CM6.out.mono ?_
      rintro e y6 ⟨rfl, d13⟩
      have B13 := btW (B12.alloc B12.size _) d13
      have cM7 := wordMost_any (some ⟨y6.heap.size, 0, none⟩) 1 [lx] (y6.alloc (.cells #[.int .u64 lx] 24)) (rdU_one y6 lx) HUL.out (by simp) (by simp)
      rw [HML.out] at cM7
      have CM7 := Lib.hid cM7
      clear cM7
      go_wp2_with fail
      refine CM7.out.mono ?_
      rintro e y7 ⟨rfl, d14⟩
      have B14 := btW (B13.alloc B13.size _) d14
      go_wp2_with fail
      refine (CS.out _).mono ?_
      rintro e y8 ⟨rfl, d15⟩
      have B15 := btW B14 d15
      go_wp2_with fail
      refine (CA.out _).mono ?_
      rintro e y9 ⟨rfl, d16⟩
      have B16 := btW B15 d16
      have cM8 := wordMost_any (some ⟨y9.heap.size, 0, none⟩) 2 [ax, a2] (y9.alloc (.cells #[.int .u64 ax, .int .u64 a2] 24)) (rdU_two y9 ax a2) HUZ.out (by simp) (by simp)
      rw [HMZ.out] at cM8
      have CM8 := Lib.hid cM8
      clear cM8
      go_wp2_with fail
      refine CM8.out.mono ?_
      rintro e y10 ⟨rfl, d17⟩
      have B17 := btW (B16.alloc B16.size _) d17
      go_wp2_with fail
      refine (CS.out _).mono ?_
      rintro e y11 ⟨rfl, d18⟩
      go_wp2_with fail
      go_ret
      exact ⟨rfl, btW B17 d18⟩

set_option maxRecDepth 100000 in
theorem lifted (os : Os) (started : os.Started) (H : Type) (enc : TypeId × Value → H) :
    ReturnsInHanded {} Try.checked os 8 .any (Rows.wordMostsSpec.pre6 enc Try.prog Try.f8 Rows.wordMostsRow.domain false) (Rows.wordMostsSpec.post enc Try.prog Try.f8 false true false false) := by
  refine returnsInHanded_of_change (C := Try.checked) own started (by kernel_rfl) Try.func8
    (ChangeSpec.witness6 (enc := enc) (C := Try.checked) false ⟨#[], #[.slice none 0 0, .slice none 0 0, .int .u64 0], []⟩ 8 (by kernel_rfl) (by kernel_rfl) (by kernel_rfl) (by kernel_rfl)) ?_
  intro W base args ds gs before hval0 hW hcnd _
  have hval : ∀ (j : Nat) t v, Try.f8.params[j]? = some t → args[j]? = some v → Value.okWide Try.prog W .any base t v := hval0
  have hW' := hW
  obtain ⟨p, q, hA0, hV, rfl, hfz, hnd⟩ := hW
  have hA : DataW.TrodAll enc Try.prog W 0 (fun _ => true) true Try.f8.params.toList args.toList ds p := hA0
  rw [Try.params8] at hA hval
  obtain ⟨v0, vs0, d0, ds0, p0, q0, hargs, rfl, rfl, h0, r0⟩ := trodAll_cons hA
  obtain ⟨v1, vs1, d1, ds1, p1, q1, rfl, rfl, rfl, h1, r1⟩ := trodAll_cons r0
  obtain ⟨v2, vs2, d2, ds2, p2, q2, rfl, rfl, rfl, h2, r2⟩ := trodAll_cons r1
  obtain ⟨rfl, rfl, rfl⟩ := trodAll_nil r2
  obtain rfl : args = #[v0, v1, v2] := by cases args; simp_all
  obtain ⟨rfl, rfl⟩ := trodVars_none hV
  obtain ⟨a0, l0, c0, rfl⟩ := okWide_slice Try.underlying41 (hval 0 41 v0 rfl rfl)
  have k0 := h0
  have lt0 : ∀ x ∈ p0, x.block < W.heap.size := by obtain ⟨m, hm⟩ := k0; exact DataW.trod_lt m _ _ _ hm
  obtain ⟨z0, w0⟩ : ∃ zs, SlcU W a0 l0 c0 zs := by
    obtain ⟨fuel, hf⟩ := h0
    rcases open_ints Try.underlying41 Try.underlying24 (by kernel_rfl) hf with ⟨hcs, _⟩ | ⟨x, l, c, zs, hcs, _, hl, hm, hz, _, hcell, hwz⟩
    · simp [Value.cells] at hcs
      obtain ⟨rfl, rfl, rfl⟩ := hcs
      exact ⟨[], SlcU.none_ W⟩
    · simp [Value.cells] at hcs
      obtain ⟨rfl, rfl, rfl⟩ := hcs
      exact ⟨_, SlcU.some_ hl (by simpa using hz) hcell hwz⟩
  obtain ⟨a1, l1, c1, rfl⟩ := okWide_slice Try.underlying41 (hval 1 41 v1 rfl rfl)
  have k1 := h1
  have lt1 : ∀ x ∈ p1, x.block < W.heap.size := by obtain ⟨m, hm⟩ := k1; exact DataW.trod_lt m _ _ _ hm
  obtain ⟨z1, w1⟩ : ∃ zs, SlcU W a1 l1 c1 zs := by
    obtain ⟨fuel, hf⟩ := h1
    rcases open_ints Try.underlying41 Try.underlying24 (by kernel_rfl) hf with ⟨hcs, _⟩ | ⟨x, l, c, zs, hcs, _, hl, hm, hz, _, hcell, hwz⟩
    · simp [Value.cells] at hcs
      obtain ⟨rfl, rfl, rfl⟩ := hcs
      exact ⟨[], SlcU.none_ W⟩
    · simp [Value.cells] at hcs
      obtain ⟨rfl, rfl, rfl⟩ := hcs
      exact ⟨_, SlcU.some_ hl (by simpa using hz) hcell hwz⟩
  obtain ⟨a2, rfl, rfl, rfl, w2⟩ := open_int Try.underlying24 (hval 2 24 v2 rfl rfl) h2
  clear hA0 hval0
  refine (walk a0 l0 c0 z0 a1 l1 c1 z1 a2 w2 W w0 w1).mono fun e W' ⟨he, bel⟩ => ?_
  subst he
  exact ⟨_, rfl, _, _, _, [], _, [], hW', trodAll_mk1 (shut_bool Try.underlying4 _), (trodAll_cons_mk (Below.trod laidOut (by kernel_rfl) (of_decide_eq_true (by kernel_rfl)) k0 bel lt0) (trodAll_cons_mk (Below.trod laidOut (by kernel_rfl) (of_decide_eq_true (by kernel_rfl)) k1 bel lt1) (trodAll_cons_mk (shut_int Try.underlying24 w2) trodAll_mk0))), rfl, bel.frame _, fun h => by cases h⟩

theorem over : Rows.wordMostsRow.holds Try.pinned (OpenSpec.ofChange Rows.wordMostsSpec) :=
  OpenClaim.holds_of_wide 8 Try.f8 rfl rfl rfl rfl rfl rfl rfl ⟨rfl, rfl, rfl, rfl, rfl⟩ rfl rfl rfl rfl rfl (by kernel_rfl) Try.func8 (by kernel_rfl)
    (of_decide_eq_true (by kernel_rfl)) (by unfold Func.isWrapper; first | (rw [if_pos (by decide +kernel)]; kernel_rfl) | (rw [if_neg (by decide +kernel)]; exact ⟨rfl, rfl⟩))
    (fun os started H enc _ => lifted os started H enc)
theorem proved : Rows.WordMostsSaid := over
end Go.Proofs.Ytphbckddcckgdaa.wordMosts
