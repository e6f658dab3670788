/- Unlike blocks have unlike bytes, and two blocks have the bytes of one and those of the other. -/
import Derived.Test.YtpmmbbkomikceaaDoorBlDoor
import Derived.Test.YtpmmbbkomikceaaDoorBlCode4
import Derived.Test.YtpmmbbkomikceaaDoorBlAwake
import Derived.Test.YtpmmbbkomikceaaDoorBlMath
import Derived.Test.YtpmmbbkomikceaaDoorBlApart
import Derived.Test.YtpmmbbkomikceaaDoorStrG
import Derived.Test.YtpmmbbkomikceaaDoorPass
import Derived.Test.YtpmmbbkomikceaaDoorRegG
namespace Go.Proofs.YtpmmbbkomikceaaDoor.blockApart
open Go.ChangeShapes Go.WideShapes Go.ChangeAt Go.RowKit
open Go.ChangeMaps (open_string shut_string)
set_option linter.unusedVariables false

set_option maxHeartbeats 40000000 in
set_option maxRecDepth 100000 in
theorem walk (z0 : BlZ) (z1 : BlZ)  (w : World) (w0 : z0.body.ok w) (w1 : z1.body.ok w) (hT : Tabs w) :
    Calls Tryd.prog 6 #[.agg #[.int .u8 (z0.kind.toNat : Int), .slice z0.body.adr z0.body.bs.length z0.body.cap], .agg #[.int .u8 (z1.kind.toNat : Int), .slice z1.body.adr z1.body.bs.length z1.body.cap]] w fun e w' => e = .returned (.bool true) ∧ Below w.heap.size w w' := by
  have C := blSpec_is
  have HTab := Lib.hid hT
  clear hT
  have hT0 := TwoL.made w z0 z1 w0 w1
  have HT0 := Lib.hid hT0
  clear hT0 w0 w1
  go_enter Tryd.func6, Tryd.ntmps6
  go_wp2_with fail
  refine (awake_any C _ (HTab.out.below HT0.out.bel)).mono ?_
  rintro e x1 ⟨rfl, b1⟩
  have hT1 := HT0.out.below b1
  obtain ⟨c0, c1, c2, c3⟩ := hT1.cells
  have HT1 := Lib.hid hT1
  have hS := small_any (some ⟨x1.heap.size, 0, none⟩) 2 [z0, z1] _ hT1.lit2 (Nat.le_refl _)
  have hiff : ([z0, z1].length ≤ 20 ∧ ∀ z ∈ [z0, z1], z.body.bs.length ≤ 500) ↔ (z0.body.bs.length ≤ 500 ∧ z1.body.bs.length ≤ 500) := ⟨fun h => ⟨h.2 z0 (by simp), h.2 z1 (by simp)⟩, fun h => ⟨by simp, fun z hz => by rcases List.mem_cons.1 hz with rfl | hz; exact h.1; rw [List.mem_singleton.1 hz]; exact h.2⟩⟩
  have HI := Lib.hid hiff
  clear hiff b1 hT1
  by_cases hsm : z0.body.bs.length ≤ 500 ∧ z1.body.bs.length ≤ 500
  · rw [decide_eq_true (HI.out.2 hsm)] at hS
    have HS := Lib.hid hS
    obtain ⟨h500, h501⟩ := hsm
    have hl0 : (allR [z0]).length = z0.body.bs.length + 10 := by rw [allR_one]; exact packR_len _ _
    have hl1 : (allR [z1]).length = z1.body.bs.length + 10 := by rw [allR_one]; exact packR_len _ _
    have hl2 : (allR [z0, z1]).length = (allR [z0]).length + (allR [z1]).length := by rw [allR_two, List.length_append]
    have HL := Lib.hid (And.intro hl0 (And.intro hl1 hl2))
    clear hS hl0 hl1 hl2
    go_wp2_with fail
    refine HS.out.mono ?_
    rintro e x2 ⟨rfl, rfl⟩
    obtain ⟨X2, hX2⟩ : ∃ X, x1.alloc (.cells #[.int .u8 (z0.kind.toNat : Int), .slice z0.body.adr z0.body.bs.length z0.body.cap, .int .u8 (z1.kind.toNat : Int), .slice z1.body.adr z1.body.bs.length z1.body.cap] 40) = X := ⟨_, rfl⟩
    have hT2 := HT1.out.alloc (.cells #[.int .u8 (z0.kind.toNat : Int), .slice z0.body.adr z0.body.bs.length z0.body.cap, .int .u8 (z1.kind.toNat : Int), .slice z1.body.adr z1.body.bs.length z1.body.cap] 40)
    rw [hX2] at hT2 ⊢
    obtain ⟨c0, c1, c2, c3⟩ := hT2.cells
    have HT2 := Lib.hid hT2
    obtain ⟨px, hpx⟩ : ∃ p, allR [z0] = p := ⟨_, rfl⟩
    obtain ⟨py, hpy⟩ : ∃ p, allR [z1] = p := ⟨_, rfl⟩
    have hlx : px.length ≤ 510 := by have := HL.out.1; rw [hpx] at this; omega
    have hly : py.length ≤ 510 := by have := HL.out.2.1; rw [hpy] at this; omega
    have hpz : allR [z0, z1] = px ++ py := by rw [allR_two, hpx, hpy]
    have HPx := Lib.hid hpx
    have HPy := Lib.hid hpy
    have HPz := Lib.hid hpz
    have hP := C.pack_ (some ⟨X2.heap.size, 0, none⟩) 1 [z0] _ hT2.lit0 (Nat.le_refl _) (by show 1 ≤ 1000; decide) (by rw [hpx]; omega) (HTab.out.below (hT2.alloc (.cells #[.int .u8 (z0.kind.toNat : Int), .slice z0.body.adr z0.body.bs.length z0.body.cap] 40)).bel)
    rw [hpx] at hP
    have HP := Lib.hid hP
    clear hP hX2 hT2 hpx hpy hpz HS HT1
    go_wp2_with fail
    refine HP.out.mono ?_
    rintro e x3 ⟨v, rfl, r3, b3⟩
    obtain ⟨Ax, cx, rfl, hcx, hrx, -, -⟩ := r3.rd
    have hT3 := (HT2.out.alloc (.cells #[.int .u8 (z0.kind.toNat : Int), .slice z0.body.adr z0.body.bs.length z0.body.cap] 40)).below b3
    obtain ⟨c0, c1, c2, c3⟩ := hT3.cells
    have HT3 := Lib.hid hT3
    have HRx := Lib.hid hrx
    have hP := C.pack_ (some ⟨x3.heap.size, 0, none⟩) 1 [z1] _ hT3.lit1 (Nat.le_refl _) (by show 1 ≤ 1000; decide) (by rw [HPy.out]; omega) (HTab.out.below (hT3.alloc (.cells #[.int .u8 (z1.kind.toNat : Int), .slice z1.body.adr z1.body.bs.length z1.body.cap] 40)).bel)
    rw [HPy.out] at hP
    have HP2 := Lib.hid hP
    clear hP r3 b3 hrx hT3 HP HT2
    go_wp2_with fail
    refine HP2.out.mono ?_
    rintro e x4 ⟨v, rfl, r4, b4⟩
    obtain ⟨Ay, cy, rfl, hcy, hry, -, -⟩ := r4.rd
    have bb : Below x3.heap.size x3 x4 := ((Below.refl _ _).alloc (Nat.le_refl _) (.cells #[.int .u8 (z1.kind.toNat : Int), .slice z1.body.adr z1.body.bs.length z1.body.cap] 40)).trans (b4.mono (by simp))
    have hT4 := HT3.out.below bb
    obtain ⟨c0, c1, c2, c3⟩ := hT4.cells
    have HT4 := Lib.hid hT4
    have HRx4 := Lib.hid (HRx.out.below (Nat.le_refl _) bb)
    have HRy := Lib.hid hry
    have hP := C.pack_ (some ⟨x4.heap.size, 0, none⟩) 2 [z0, z1] _ hT4.lit2 (Nat.le_refl _) (by show 2 ≤ 1000; decide) (by rw [HPz.out, List.length_append]; omega) (HTab.out.below (hT4.alloc (.cells #[.int .u8 (z0.kind.toNat : Int), .slice z0.body.adr z0.body.bs.length z0.body.cap, .int .u8 (z1.kind.toNat : Int), .slice z1.body.adr z1.body.bs.length z1.body.cap] 40)).bel)
    rw [HPz.out, List.length_append] at hP
    have HP3 := Lib.hid hP
    clear hP r4 b4 hry hT4 HP2 HT3 HRx bb
    go_wp2_with fail
    refine HP3.out.mono ?_
    rintro e x5 ⟨v, rfl, r5, b5⟩
    obtain ⟨Az, cz, rfl, hcz, hrz, -, -⟩ := r5.rd
    have bb : Below x4.heap.size x4 x5 := ((Below.refl _ _).alloc (Nat.le_refl _) (.cells #[.int .u8 (z0.kind.toNat : Int), .slice z0.body.adr z0.body.bs.length z0.body.cap, .int .u8 (z1.kind.toNat : Int), .slice z1.body.adr z1.body.bs.length z1.body.cap] 40)).trans (b5.mono (by simp))
    have hT5 := HT4.out.below bb
    obtain ⟨c0, c1, c2, c3⟩ := hT5.cells
    have HT5 := Lib.hid hT5
    have HRx5 := Lib.hid (HRx4.out.below (Nat.le_refl _) bb)
    have HRy5 := Lib.hid (HRy.out.below (Nat.le_refl _) bb)
    have HRz := Lib.hid hrz
    clear r5 b5 hrz hT5 HP3 HT4 HRx4 HRy bb
    go_upto_region 6 with fail
    go_cut [11] (fun v wx => (∃ n : Nat, v = .int .i64 (n : Nat) ∧ n = min px.length py.length) ∧ x5 = wx)
    case first =>
      go_wp2_with fail
      · go_meet
        case rel => exact ⟨⟨_, rfl, by omega⟩, rfl⟩
      · go_meet
        case rel => exact ⟨⟨_, rfl, by omega⟩, rfl⟩
    case rest =>
      obtain ⟨⟨n, rfl, hn⟩, rfl⟩ := hcut
      have hl0 : layL.Rd (x5.alloc (.cells #[.int .u8 (z0.kind.toNat : Int), .slice z0.body.adr z0.body.bs.length z0.body.cap] 40)) (some ⟨x5.heap.size, 0, none⟩) [z0] := (HT5.out.lit0).1
      have hT6 := HT5.out.alloc (.cells #[.int .u8 (z0.kind.toNat : Int), .slice z0.body.adr z0.body.bs.length z0.body.cap] 40)
      have hT7 := hT6.alloc (.cells #[.int .u8 (z1.kind.toNat : Int), .slice z1.body.adr z1.body.bs.length z1.body.cap] 40)
      have s6 : (x5.alloc (.cells #[.int .u8 (z0.kind.toNat : Int), .slice z0.body.adr z0.body.bs.length z0.body.cap] 40)).heap.size = x5.heap.size + 1 := Array.size_push _
      have hla := HT5.out.lit0
      have hlb := hT6.lit1
      rw [s6] at hlb
      have hSm := refSame_any (some ⟨x5.heap.size, 0, none⟩) 1 [z0] (some ⟨x5.heap.size + 1, 0, none⟩) 1 [z1] _ (hla.below (Nat.le_refl _) ((Below.refl _ _).alloc (Nat.le_refl _) _)) hlb (Nat.le_refl _) (Nat.le_refl _) (by show 1 ≤ 100000; decide) (by show 1 ≤ 100000; decide)
      obtain ⟨d0, d1, d2, d3⟩ := hT6.cells
      obtain ⟨q, hq⟩ : ∃ q, decide ([z0].map pairL = [z1].map pairL) = q := ⟨_, rfl⟩
      have HQ := Lib.hid hq
      rw [hq] at hSm
      have HSm := Lib.hid hSm
      have HT7 := Lib.hid hT7
      clear hl0 hT6 hT7 hla hlb hSm hq
      clear d0 d1 d2 d3
      obtain ⟨d0, d1, d2, d3⟩ := (HT5.out.alloc (.cells #[.int .u8 (z0.kind.toNat : Int), .slice z0.body.adr z0.body.bs.length z0.body.cap] 40)).cells
      go_wp2_with fail
      refine HSm.out.mono ?_
      rintro e x6 ⟨rfl, b6⟩
      have hT8 := HT7.out.below b6
      have bb : Below x5.heap.size x5 x6 := (((Below.refl x5.heap.size x5).alloc (Nat.le_refl _) (.cells #[.int .u8 (z0.kind.toNat : Int), .slice z0.body.adr z0.body.bs.length z0.body.cap] 40)).alloc (by simp) (.cells #[.int .u8 (z1.kind.toNat : Int), .slice z1.body.adr z1.body.bs.length z1.body.cap] 40)).trans (b6.mono (by simp; omega))
      have HRx6 := Lib.hid (HRx5.out.below (Nat.le_refl _) bb)
      have HRy6 := Lib.hid (HRy5.out.below (Nat.le_refl _) bb)
      have HRz6 := Lib.hid (HRz.out.below (Nat.le_refl _) bb)
      have hbeq := same_beq HPx.out HPy.out h500 h501 (n := n) (by omega) HQ.out
      have hwr : IntKind.i64.wrap ((px.length : Int) + (py.length : Int)) = (px.length : Int) + (py.length : Int) := IntWalk.i64_in _ (by omega)
      have hq1 : ¬ 9223372036854775807 < px.length + py.length := by omega
      have happ : (⟨px.toArray⟩ : ByteArray) ++ ⟨py.toArray⟩ = ⟨(px ++ py).toArray⟩ := strB_append px py
      have hn1 : n ≤ cx := by omega
      have hn2 : n ≤ cy := by omega
      have hn3 : n ≤ px.length := by omega
      have hn4 : n ≤ py.length := by omega
      have hsx := fun W => slice_toB W Ax px.length cx (n) hn1
      have hsy := fun W => slice_toB W Ay py.length cy (n) hn2
      have HTx6 := Lib.hid hT8
      clear hT8 b6 bb HRx5 HRy5 HRz HSm HT7 hn1 hn2 hn
      go_wp2_with fail
      have hT := HTx6.out.drew
      have hB : Below x6.heap.size x6 x6.drew := (Below.refl _ _).drew
      have hK0 := And.intro hT hB
      have HTX := Lib.hid hT
      have HBX := Lib.hid hB
      clear hT hB
      refine wp_region_held_drew (S := (fun W => TwoL w W z0 z1 ∧ Below x6.heap.size x6 W)) (by kernel_rfl) hK0 (fun hHeld => ?_)
      clear hK0
      generalize x6.drew = X at *
      refine wpAnyH_take (i := 0) (v := ?_) (by simp only [List.getElem?_toArray, List.getElem?_cons_zero]; rfl) (by kernel_rfl) (by kernel_rfl) (by kernel_rfl) (by exact fun _ _ _ h => h) (Or.inl ⟨by rfl, ?_⟩) (by assumption) ?_
      rotate_left
      · intro w hSw; (try dsimp only at hSw); go_simp; (try with_reducible rfl)
      try simp only [Act.put, List.setIfInBounds_toArray, List.set_cons_zero, List.set_cons_succ]
      refine wpAnyH_take (i := 1) (v := ?_) (by simp only [List.getElem?_toArray, List.getElem?_cons_zero, List.getElem?_cons_succ]; rfl) (by kernel_rfl) (by kernel_rfl) (by kernel_rfl) (by exact fun _ _ _ h => h) (Or.inl ⟨by rfl, ?_⟩) (by assumption) ?_
      rotate_left
      · intro w hSw; (try dsimp only at hSw); go_simp; (try with_reducible rfl)
      try simp only [Act.put, List.setIfInBounds_toArray, List.set_cons_zero, List.set_cons_succ]
      refine wpAnyH_take (i := 2) (v := ?_) (by simp only [List.getElem?_toArray, List.getElem?_cons_zero, List.getElem?_cons_succ]; rfl) (by kernel_rfl) (by kernel_rfl) (by kernel_rfl) (by exact fun _ _ _ h => h) (Or.inl ⟨by rfl, ?_⟩) (by assumption) ?_
      rotate_left
      · intro w hSw; (try dsimp only at hSw); go_simp; (try with_reducible rfl)
      try simp only [Act.put, List.setIfInBounds_toArray, List.set_cons_zero, List.set_cons_succ]
      refine wpAnyH_take (i := 3) (v := ?_) (by simp only [List.getElem?_toArray, List.getElem?_cons_zero, List.getElem?_cons_succ]; rfl) (by kernel_rfl) (by kernel_rfl) (by kernel_rfl) (by exact fun _ _ _ h => h) (Or.inl ⟨by rfl, ?_⟩) (by assumption) ?_
      rotate_left
      · intro w hSw; (try dsimp only at hSw); go_simp; (try with_reducible rfl)
      try simp only [Act.put, List.setIfInBounds_toArray, List.set_cons_zero, List.set_cons_succ]
      refine wpAnyH_take (i := 4) (v := ?_) (by simp only [List.getElem?_toArray, List.getElem?_cons_zero, List.getElem?_cons_succ]; rfl) (by kernel_rfl) (by kernel_rfl) (by kernel_rfl) (by exact fun _ _ _ h => h) (Or.inl ⟨by rfl, ?_⟩) (by assumption) ?_
      rotate_left
      · intro w hSw; (try dsimp only at hSw); go_simp; (try with_reducible rfl)
      try simp only [Act.put, List.setIfInBounds_toArray, List.set_cons_zero, List.set_cons_succ]
      refine wpAnyH_take (i := 5) (v := ?_) (by simp only [List.getElem?_toArray, List.getElem?_cons_zero, List.getElem?_cons_succ]; rfl) (by kernel_rfl) (by kernel_rfl) (by kernel_rfl) (by exact fun _ _ _ h => h) (Or.inl ⟨by rfl, ?_⟩) (by assumption) ?_
      rotate_left
      · intro w hSw; (try dsimp only at hSw); go_simp; (try with_reducible rfl)
      try simp only [Act.put, List.setIfInBounds_toArray, List.set_cons_zero, List.set_cons_succ]
      refine wpAnyH_take (i := 6) (v := ?_) (by simp only [List.getElem?_toArray, List.getElem?_cons_zero, List.getElem?_cons_succ]; rfl) (by kernel_rfl) (by kernel_rfl) (by kernel_rfl) (by exact fun _ _ _ h => h) (Or.inl ⟨by rfl, ?_⟩) (by assumption) ?_
      rotate_left
      · intro w hSw; (try dsimp only at hSw); go_simp; (try with_reducible rfl)
      try simp only [Act.put, List.setIfInBounds_toArray, List.set_cons_zero, List.set_cons_succ]
      refine wpAnyH_take (i := 7) (v := ?_) (by simp only [List.getElem?_toArray, List.getElem?_cons_zero, List.getElem?_cons_succ]; rfl) (by kernel_rfl) (by kernel_rfl) (by kernel_rfl) (by exact fun _ _ _ h => h) (Or.inl ⟨by rfl, ?_⟩) (by assumption) ?_
      rotate_left
      · intro w hSw; (try dsimp only at hSw); go_simp; (try with_reducible rfl)
      try simp only [Act.put, List.setIfInBounds_toArray, List.set_cons_zero, List.set_cons_succ]
      refine wpAnyH_take (i := 8) (v := ?_) (by simp only [List.getElem?_toArray, List.getElem?_cons_zero, List.getElem?_cons_succ]; rfl) (by kernel_rfl) (by kernel_rfl) (by kernel_rfl) (by exact fun _ _ _ h => h) (Or.inl ⟨by rfl, ?_⟩) (by assumption) ?_
      rotate_left
      · intro w hSw; (try dsimp only at hSw); go_simp; (try with_reducible rfl)
      try simp only [Act.put, List.setIfInBounds_toArray, List.set_cons_zero, List.set_cons_succ]
      refine wpAnyH_take (i := 9) (v := ?_) (by simp only [List.getElem?_toArray, List.getElem?_cons_zero, List.getElem?_cons_succ]; rfl) (by kernel_rfl) (by kernel_rfl) (by kernel_rfl) (by exact fun _ _ _ h => h) (Or.inl ⟨by rfl, ?_⟩) (by assumption) ?_
      rotate_left
      · intro w hSw; (try dsimp only at hSw); go_simp; (try with_reducible rfl)
      try simp only [Act.put, List.setIfInBounds_toArray, List.set_cons_zero, List.set_cons_succ]
      refine wpAnyH_take (i := 10) (v := ?_) (by simp only [List.getElem?_toArray, List.getElem?_cons_zero, List.getElem?_cons_succ]; rfl) (by kernel_rfl) (by kernel_rfl) (by kernel_rfl) (by exact fun _ _ _ h => h) (Or.inl ⟨by rfl, ?_⟩) (by assumption) ?_
      rotate_left
      · intro w hSw; (try dsimp only at hSw); go_simp; (try with_reducible rfl)
      try simp only [Act.put, List.setIfInBounds_toArray, List.set_cons_zero, List.set_cons_succ]
      refine wpAnyH_take (i := 11) (v := ?_) (by simp only [List.getElem?_toArray, List.getElem?_cons_zero, List.getElem?_cons_succ]; rfl) (by kernel_rfl) (by kernel_rfl) (by kernel_rfl) (by exact fun _ _ _ h => h) (Or.inl ⟨by rfl, ?_⟩) (by assumption) ?_
      rotate_left
      · intro w hSw; (try dsimp only at hSw); go_simp; (try with_reducible rfl)
      try simp only [Act.put, List.setIfInBounds_toArray, List.set_cons_zero, List.set_cons_succ]
      refine wpAnyH_take (i := 12) (v := ?_) (by simp only [List.getElem?_toArray, List.getElem?_cons_zero, List.getElem?_cons_succ]; rfl) (by kernel_rfl) (by kernel_rfl) (by kernel_rfl) (by exact fun _ _ _ h => h) (Or.inl ⟨by rfl, ?_⟩) (by assumption) ?_
      rotate_left
      · intro w hSw; (try dsimp only at hSw); have hcx := conv_rd (l := px.length + py.length) (c := cz) (HRz6.out.below (Nat.le_refl _) hSw.2) (by simp); go_simp; (try with_reducible rfl)
      try simp only [Act.put, List.setIfInBounds_toArray, List.set_cons_zero, List.set_cons_succ]
      refine wpAnyH_take (i := 13) (v := ?_) (by simp only [List.getElem?_toArray, List.getElem?_cons_zero, List.getElem?_cons_succ]; rfl) (by kernel_rfl) (by kernel_rfl) (by kernel_rfl) (by exact fun _ _ _ h => h) (Or.inl ⟨by rfl, ?_⟩) (by assumption) ?_
      rotate_left
      · intro w hSw; (try dsimp only at hSw); go_simp; (try with_reducible rfl)
      try simp only [Act.put, List.setIfInBounds_toArray, List.set_cons_zero, List.set_cons_succ]
      refine wpAnyH_take (i := 14) (v := ?_) (by simp only [List.getElem?_toArray, List.getElem?_cons_zero, List.getElem?_cons_succ]; rfl) (by kernel_rfl) (by kernel_rfl) (by kernel_rfl) (by exact fun _ _ _ h => h) (Or.inl ⟨by rfl, ?_⟩) (by assumption) ?_
      rotate_left
      · intro w hSw; (try dsimp only at hSw); have hcx := conv_rd (l := px.length) (c := cx) (HRx6.out.below (Nat.le_refl _) hSw.2) rfl; go_simp; (try with_reducible rfl)
      try simp only [Act.put, List.setIfInBounds_toArray, List.set_cons_zero, List.set_cons_succ]
      refine wpAnyH_take (i := 15) (v := ?_) (by simp only [List.getElem?_toArray, List.getElem?_cons_zero, List.getElem?_cons_succ]; rfl) (by kernel_rfl) (by kernel_rfl) (by kernel_rfl) (by exact fun _ _ _ h => h) (Or.inl ⟨by rfl, ?_⟩) (by assumption) ?_
      rotate_left
      · intro w hSw; (try dsimp only at hSw); go_simp; (try with_reducible rfl)
      try simp only [Act.put, List.setIfInBounds_toArray, List.set_cons_zero, List.set_cons_succ]
      refine wpAnyH_take (i := 16) (v := ?_) (by simp only [List.getElem?_toArray, List.getElem?_cons_zero, List.getElem?_cons_succ]; rfl) (by kernel_rfl) (by kernel_rfl) (by kernel_rfl) (by exact fun _ _ _ h => h) (Or.inl ⟨by rfl, ?_⟩) (by assumption) ?_
      rotate_left
      · intro w hSw; (try dsimp only at hSw); have hcx := conv_rd (l := py.length) (c := cy) (HRy6.out.below (Nat.le_refl _) hSw.2) rfl; go_simp; (try with_reducible rfl)
      try simp only [Act.put, List.setIfInBounds_toArray, List.set_cons_zero, List.set_cons_succ]
      refine wpAnyH_take (i := 17) (v := ?_) (by simp only [List.getElem?_toArray, List.getElem?_cons_zero, List.getElem?_cons_succ]; rfl) (by kernel_rfl) (by kernel_rfl) (by kernel_rfl) (by exact fun _ _ _ h => h) (Or.inl ⟨by rfl, ?_⟩) (by assumption) ?_
      rotate_left
      · intro w hSw; (try dsimp only at hSw); go_simp; (try with_reducible rfl)
      try simp only [Act.put, List.setIfInBounds_toArray, List.set_cons_zero, List.set_cons_succ]
      refine wpAnyH_take (i := 18) (v := ?_) (by simp only [List.getElem?_toArray, List.getElem?_cons_zero, List.getElem?_cons_succ]; rfl) (by kernel_rfl) (by kernel_rfl) (by kernel_rfl) (by exact fun _ _ _ h => h) (Or.inl ⟨by rfl, ?_⟩) (by assumption) ?_
      rotate_left
      · intro w hSw; (try dsimp only at hSw); go_simp; (try with_reducible rfl)
      try simp only [Act.put, List.setIfInBounds_toArray, List.set_cons_zero, List.set_cons_succ]
      refine wpAnyH_take (i := 19) (v := ?_) (by simp only [List.getElem?_toArray, List.getElem?_cons_zero, List.getElem?_cons_succ]; rfl) (by kernel_rfl) (by kernel_rfl) (by kernel_rfl) (by exact fun _ _ _ h => h) (Or.inl ⟨by rfl, ?_⟩) (by assumption) ?_
      rotate_left
      · intro w hSw; (try dsimp only at hSw); go_simp; (try with_reducible rfl)
      try simp only [Act.put, List.setIfInBounds_toArray, List.set_cons_zero, List.set_cons_succ]
      refine wpAnyH_take (i := 20) (v := ?_) (by simp only [List.getElem?_toArray, List.getElem?_cons_zero, List.getElem?_cons_succ]; rfl) (by kernel_rfl) (by kernel_rfl) (by kernel_rfl) (by exact fun _ _ _ h => h) (Or.inl ⟨by rfl, ?_⟩) (by assumption) ?_
      rotate_left
      · intro w hSw; (try dsimp only at hSw); go_simp; (try with_reducible rfl)
      try simp only [Act.put, List.setIfInBounds_toArray, List.set_cons_zero, List.set_cons_succ]
      refine wpAnyH_take (i := 21) (v := ?_) (by simp only [List.getElem?_toArray, List.getElem?_cons_zero, List.getElem?_cons_succ]; rfl) (by kernel_rfl) (by kernel_rfl) (by kernel_rfl) (by exact fun _ _ _ h => h) (Or.inl ⟨by rfl, ?_⟩) (by assumption) ?_
      rotate_left
      · intro w hSw; (try dsimp only at hSw); go_simp; (try with_reducible rfl)
      try simp only [Act.put, List.setIfInBounds_toArray, List.set_cons_zero, List.set_cons_succ]
      refine wpAnyH_take (i := 22) (v := ?_) (by simp only [List.getElem?_toArray, List.getElem?_cons_zero, List.getElem?_cons_succ]; rfl) (by kernel_rfl) (by kernel_rfl) (by kernel_rfl) (by exact fun _ _ _ h => h) (Or.inl ⟨by rfl, ?_⟩) (by assumption) ?_
      rotate_left
      · intro w hSw; (try dsimp only at hSw); go_simp; (try with_reducible rfl)
      try simp only [Act.put, List.setIfInBounds_toArray, List.set_cons_zero, List.set_cons_succ]
      refine wpAnyH_take (i := 23) (v := ?_) (by simp only [List.getElem?_toArray, List.getElem?_cons_zero, List.getElem?_cons_succ]; rfl) (by kernel_rfl) (by kernel_rfl) (by kernel_rfl) (by exact fun _ _ _ h => h) (Or.inl ⟨by rfl, ?_⟩) (by assumption) ?_
      rotate_left
      · intro w hSw; (try dsimp only at hSw); go_simp; (try with_reducible rfl)
      try simp only [Act.put, List.setIfInBounds_toArray, List.set_cons_zero, List.set_cons_succ]
      refine wpAnyH_take (i := 24) (v := ?_) (by simp only [List.getElem?_toArray, List.getElem?_cons_zero, List.getElem?_cons_succ]; rfl) (by kernel_rfl) (by kernel_rfl) (by kernel_rfl) (by exact fun _ _ _ h => h) (Or.inl ⟨by rfl, ?_⟩) (by assumption) ?_
      rotate_left
      · intro w hSw; (try dsimp only at hSw); have hcx := conv_rd (l := n) (c := cx) ((HRx6.out.below (Nat.le_refl _) hSw.2).take (n)) (by rw [List.length_take]; omega); go_simp; (try with_reducible rfl)
      try simp only [Act.put, List.setIfInBounds_toArray, List.set_cons_zero, List.set_cons_succ]
      refine wpAnyH_take (i := 25) (v := ?_) (by simp only [List.getElem?_toArray, List.getElem?_cons_zero, List.getElem?_cons_succ]; rfl) (by kernel_rfl) (by kernel_rfl) (by kernel_rfl) (by exact fun _ _ _ h => h) (Or.inl ⟨by rfl, ?_⟩) (by assumption) ?_
      rotate_left
      · intro w hSw; (try dsimp only at hSw); go_simp; (try with_reducible rfl)
      try simp only [Act.put, List.setIfInBounds_toArray, List.set_cons_zero, List.set_cons_succ]
      refine wpAnyH_take (i := 26) (v := ?_) (by simp only [List.getElem?_toArray, List.getElem?_cons_zero, List.getElem?_cons_succ]; rfl) (by kernel_rfl) (by kernel_rfl) (by kernel_rfl) (by exact fun _ _ _ h => h) (Or.inl ⟨by rfl, ?_⟩) (by assumption) ?_
      rotate_left
      · intro w hSw; (try dsimp only at hSw); go_simp; (try with_reducible rfl)
      try simp only [Act.put, List.setIfInBounds_toArray, List.set_cons_zero, List.set_cons_succ]
      refine wpAnyH_take (i := 27) (v := ?_) (by simp only [List.getElem?_toArray, List.getElem?_cons_zero, List.getElem?_cons_succ]; rfl) (by kernel_rfl) (by kernel_rfl) (by kernel_rfl) (by exact fun _ _ _ h => h) (Or.inl ⟨by rfl, ?_⟩) (by assumption) ?_
      rotate_left
      · intro w hSw; (try dsimp only at hSw); go_simp; (try with_reducible rfl)
      try simp only [Act.put, List.setIfInBounds_toArray, List.set_cons_zero, List.set_cons_succ]
      refine wpAnyH_take (i := 28) (v := ?_) (by simp only [List.getElem?_toArray, List.getElem?_cons_zero, List.getElem?_cons_succ]; rfl) (by kernel_rfl) (by kernel_rfl) (by kernel_rfl) (by exact fun _ _ _ h => h) (Or.inl ⟨by rfl, ?_⟩) (by assumption) ?_
      rotate_left
      · intro w hSw; (try dsimp only at hSw); have hcx := conv_rd (l := n) (c := cy) ((HRy6.out.below (Nat.le_refl _) hSw.2).take (n)) (by rw [List.length_take]; omega); go_simp; (try with_reducible rfl)
      try simp only [Act.put, List.setIfInBounds_toArray, List.set_cons_zero, List.set_cons_succ]
      refine wpAnyH_take (i := 29) (v := ?_) (by simp only [List.getElem?_toArray, List.getElem?_cons_zero, List.getElem?_cons_succ]; rfl) (by kernel_rfl) (by kernel_rfl) (by kernel_rfl) (by exact fun _ _ _ h => h) (Or.inl ⟨by rfl, ?_⟩) (by assumption) ?_
      rotate_left
      · intro w hSw; (try dsimp only at hSw); go_simp; (try with_reducible rfl)
      try simp only [Act.put, List.setIfInBounds_toArray, List.set_cons_zero, List.set_cons_succ]
      refine wpAnyH_take (i := 30) (v := ?_) (by simp only [List.getElem?_toArray, List.getElem?_cons_zero, List.getElem?_cons_succ]; rfl) (by kernel_rfl) (by kernel_rfl) (by kernel_rfl) (by exact fun _ _ _ h => h) (Or.inl ⟨by rfl, ?_⟩) (by assumption) ?_
      rotate_left
      · intro w hSw; (try dsimp only at hSw); go_simp; (try with_reducible rfl)
      try simp only [Act.put, List.setIfInBounds_toArray, List.set_cons_zero, List.set_cons_succ]
      refine wpAnyH_take (i := 31) (v := ?_) (by simp only [List.getElem?_toArray, List.getElem?_cons_zero, List.getElem?_cons_succ]; rfl) (by kernel_rfl) (by kernel_rfl) (by kernel_rfl) (by exact fun _ _ _ h => h) (Or.inl ⟨by rfl, ?_⟩) (by assumption) ?_
      rotate_left
      · intro w hSw; (try dsimp only at hSw); go_simp; (try with_reducible rfl)
      try simp only [Act.put, List.setIfInBounds_toArray, List.set_cons_zero, List.set_cons_succ]
      refine wpAnyH_take (i := 32) (v := ?_) (by simp only [List.getElem?_toArray, List.getElem?_cons_zero, List.getElem?_cons_succ]; rfl) (by kernel_rfl) (by kernel_rfl) (by kernel_rfl) (by exact fun _ _ _ h => h) (Or.inl ⟨by rfl, ?_⟩) (by assumption) ?_
      rotate_left
      · intro w hSw; (try dsimp only at hSw); go_simp; (try with_reducible rfl)
      try simp only [Act.put, List.setIfInBounds_toArray, List.set_cons_zero, List.set_cons_succ]
      refine wpAnyH_take (i := 33) (v := ?_) (by simp only [List.getElem?_toArray, List.getElem?_cons_zero, List.getElem?_cons_succ]; rfl) (by kernel_rfl) (by kernel_rfl) (by kernel_rfl) (by exact fun _ _ _ h => h) (Or.inl ⟨by rfl, ?_⟩) (by assumption) ?_
      rotate_left
      · intro w hSw; (try dsimp only at hSw); go_simp; (try with_reducible rfl)
      try simp only [Act.put, List.setIfInBounds_toArray, List.set_cons_zero, List.set_cons_succ]
      refine wpAnyH_take (i := 34) (v := ?_) (by simp only [List.getElem?_toArray, List.getElem?_cons_zero, List.getElem?_cons_succ]; rfl) (by kernel_rfl) (by kernel_rfl) (by kernel_rfl) (by exact fun _ _ _ h => h) (Or.inl ⟨by rfl, ?_⟩) (by assumption) ?_
      rotate_left
      · intro w hSw; (try dsimp only at hSw); obtain ⟨k0, k1, k2, k3⟩ := hSw.1.cells; go_simp; (try with_reducible rfl)
      try simp only [Act.put, List.setIfInBounds_toArray, List.set_cons_zero, List.set_cons_succ]
      refine wpAnyH_take (i := 35) (v := ?_) (by simp only [List.getElem?_toArray, List.getElem?_cons_zero, List.getElem?_cons_succ]; rfl) (by kernel_rfl) (by kernel_rfl) (by kernel_rfl) (by exact fun _ _ _ h => h) (Or.inl ⟨by rfl, ?_⟩) (by assumption) ?_
      rotate_left
      · intro w hSw; (try dsimp only at hSw); obtain ⟨k0, k1, k2, k3⟩ := hSw.1.cells; go_simp; (try with_reducible rfl)
      try simp only [Act.put, List.setIfInBounds_toArray, List.set_cons_zero, List.set_cons_succ]
      refine wpAnyH_take (i := 38) (v := ?_) (by simp only [List.getElem?_toArray, List.getElem?_cons_zero, List.getElem?_cons_succ]; rfl) (by kernel_rfl) (by kernel_rfl) (by kernel_rfl) (by exact fun _ _ _ h => h) (Or.inl ⟨by rfl, ?_⟩) (by assumption) ?_
      rotate_left
      · intro w hSw; (try dsimp only at hSw); obtain ⟨k0, k1, k2, k3⟩ := hSw.1.cells; go_simp; (try with_reducible rfl)
      try simp only [Act.put, List.setIfInBounds_toArray, List.set_cons_zero, List.set_cons_succ]
      refine wpAnyH_take (i := 41) (v := ?_) (by simp only [List.getElem?_toArray, List.getElem?_cons_zero, List.getElem?_cons_succ]; rfl) (by kernel_rfl) (by kernel_rfl) (by kernel_rfl) (by exact fun _ _ _ h => h) (Or.inl ⟨by rfl, ?_⟩) (by assumption) ?_
      rotate_left
      · intro w hSw; (try dsimp only at hSw); obtain ⟨k0, k1, k2, k3⟩ := hSw.1.cells; go_simp; (try with_reducible rfl)
      try simp only [Act.put, List.setIfInBounds_toArray, List.set_cons_zero, List.set_cons_succ]
      refine wpAnyH_named ?_
      intro G A L hA0 hL0 hUp hDown
      have HA0 := Lib.hid hA0
      have HL0 := Lib.hid hL0
      have HUp := Lib.hid hUp
      have HDown := Lib.hid hDown
      clear hA0 hL0 hUp hDown
      have k0 : ∀ (Y : World) (a36 : Nat) (a39 : Nat) (a42 : Nat), TwoL w Y z0 z1 → Below x6.heap.size x6 Y → G 13 ((((((L.setIfInBounds 36 true).setIfInBounds 37 true).setIfInBounds 39 true).setIfInBounds 40 true).setIfInBounds 42 true).setIfInBounds 43 true) ((((((A.put (some 88) (.slice (some ⟨a36, 0, none⟩) 2 2)).put (some 89) (.int .i64 ((px.length : Int) + (py.length : Int)))).put (some 91) (.slice (some ⟨a39, 0, none⟩) 1 1)).put (some 92) (.int .i64 (px.length : Int))).put (some 94) (.slice (some ⟨a42, 0, none⟩) 1 1)).put (some 95) (.int .i64 (py.length : Int))) Y := by
        intro Y a36 a39 a42 hT hB 
        as_aux_lemma =>
          apply HUp.out
          rw [HA0.out, HL0.out]
          try simp only [Act.put, List.setIfInBounds_toArray, List.set_cons_zero, List.set_cons_succ]
          have hHeld : TwoL w Y z0 z1 ∧ Below x6.heap.size x6 Y := ⟨hT, hB⟩
          have HTY := Lib.hid hT
          have HBY := Lib.hid hB
          clear hT hB 
          refine wpAnyH_take (i := 44) (v := ?_) (by simp only [List.getElem?_toArray, List.getElem?_cons_zero, List.getElem?_cons_succ]; rfl) (by kernel_rfl) (by kernel_rfl) (by kernel_rfl) (by exact fun _ _ _ h => h) (Or.inl ⟨by rfl, ?_⟩) (by assumption) ?_
          rotate_left
          · intro w hSw; (try dsimp only at hSw); go_simp; (try with_reducible rfl)
          try simp only [Act.put, List.setIfInBounds_toArray, List.set_cons_zero, List.set_cons_succ]
          refine wpAnyH_take (i := 45) (v := ?_) (by simp only [List.getElem?_toArray, List.getElem?_cons_zero, List.getElem?_cons_succ]; rfl) (by kernel_rfl) (by kernel_rfl) (by kernel_rfl) (by exact fun _ _ _ h => h) (Or.inl ⟨by rfl, ?_⟩) (by assumption) ?_
          rotate_left
          · intro w hSw; (try dsimp only at hSw); go_simp; (try with_reducible rfl)
          try simp only [Act.put, List.setIfInBounds_toArray, List.set_cons_zero, List.set_cons_succ]
          refine wpAnyH_take (i := 46) (v := ?_) (by simp only [List.getElem?_toArray, List.getElem?_cons_zero, List.getElem?_cons_succ]; rfl) (by kernel_rfl) (by kernel_rfl) (by kernel_rfl) (by exact fun _ _ _ h => h) (Or.inl ⟨by rfl, ?_⟩) (by assumption) ?_
          rotate_left
          · intro w hSw; (try dsimp only at hSw); go_simp; (try with_reducible rfl)
          try simp only [Act.put, List.setIfInBounds_toArray, List.set_cons_zero, List.set_cons_succ]
          refine wpAnyH_take (i := 47) (v := ?_) (by simp only [List.getElem?_toArray, List.getElem?_cons_zero, List.getElem?_cons_succ]; rfl) (by kernel_rfl) (by kernel_rfl) (by kernel_rfl) (by exact fun _ _ _ h => h) (Or.inl ⟨by rfl, ?_⟩) (by assumption) ?_
          rotate_left
          · intro w hSw; (try dsimp only at hSw); go_simp; (try with_reducible rfl)
          try simp only [Act.put, List.setIfInBounds_toArray, List.set_cons_zero, List.set_cons_succ]
          refine wpAnyH_take (i := 48) (v := ?_) (by simp only [List.getElem?_toArray, List.getElem?_cons_zero, List.getElem?_cons_succ]; rfl) (by kernel_rfl) (by kernel_rfl) (by kernel_rfl) (by exact fun _ _ _ h => h) (Or.inl ⟨by rfl, ?_⟩) (by assumption) ?_
          rotate_left
          · intro w hSw; (try dsimp only at hSw); go_simp; (try with_reducible rfl)
          try simp only [Act.put, List.setIfInBounds_toArray, List.set_cons_zero, List.set_cons_succ]
          refine wpAnyH_take (i := 49) (v := ?_) (by simp only [List.getElem?_toArray, List.getElem?_cons_zero, List.getElem?_cons_succ]; rfl) (by kernel_rfl) (by kernel_rfl) (by kernel_rfl) (by exact fun _ _ _ h => h) (Or.inl ⟨by rfl, ?_⟩) (by assumption) ?_
          rotate_left
          · intro w hSw; (try dsimp only at hSw); go_simp; (try with_reducible rfl)
          try simp only [Act.put, List.setIfInBounds_toArray, List.set_cons_zero, List.set_cons_succ]
          refine wpAnyH_take (i := 50) (v := ?_) (by simp only [List.getElem?_toArray, List.getElem?_cons_zero, List.getElem?_cons_succ]; rfl) (by kernel_rfl) (by kernel_rfl) (by kernel_rfl) (by exact fun _ _ _ h => h) (Or.inl ⟨by rfl, ?_⟩) (by assumption) ?_
          rotate_left
          · intro w hSw; (try dsimp only at hSw); obtain ⟨k0, k1, k2, k3⟩ := hSw.1.cells; go_simp; (try with_reducible rfl)
          try simp only [Act.put, List.setIfInBounds_toArray, List.set_cons_zero, List.set_cons_succ]
          refine wpAnyH_take (i := 51) (v := ?_) (by simp only [List.getElem?_toArray, List.getElem?_cons_zero, List.getElem?_cons_succ]; rfl) (by kernel_rfl) (by kernel_rfl) (by kernel_rfl) (by exact fun _ _ _ h => h) (Or.inl ⟨by rfl, ?_⟩) (by assumption) ?_
          rotate_left
          · intro w hSw; (try dsimp only at hSw); obtain ⟨k0, k1, k2, k3⟩ := hSw.1.cells; go_simp; (try with_reducible rfl)
          try simp only [Act.put, List.setIfInBounds_toArray, List.set_cons_zero, List.set_cons_succ]
          refine wpAnyH_ready (rs := [52]) (by kernel_rfl) (by simp) ?_
          refine AllReadyH.cons (by simp only [List.getElem?_toArray, List.getElem?_cons_zero, List.getElem?_cons_succ]; rfl) (fun K hK => ?_) AllReadyH.nil
          try rw [if_pos (by rfl)]
          go_simp
          obtain ⟨Z, hY⟩ : ∃ V, Y.alloc (.cells #[.int .u8 (z0.kind.toNat : Int), .slice z0.body.adr z0.body.bs.length z0.body.cap, .int .u8 (z1.kind.toNat : Int), .slice z1.body.adr z1.body.bs.length z1.body.cap] 40) = V := ⟨_, rfl⟩
          have hl := HTY.out.lit2
          have hT := HTY.out.alloc (.cells #[.int .u8 (z0.kind.toNat : Int), .slice z0.body.adr z0.body.bs.length z0.body.cap, .int .u8 (z1.kind.toNat : Int), .slice z1.body.adr z1.body.bs.length z1.body.cap] 40)
          have hB := HBY.out.alloc HBY.out.size (.cells #[.int .u8 (z0.kind.toNat : Int), .slice z0.body.adr z0.body.bs.length z0.body.cap, .int .u8 (z1.kind.toNat : Int), .slice z1.body.adr z1.body.bs.length z1.body.cap] 40)
          rw [hY] at hl hT hB ⊢
          clear hY
          have HL52 := Lib.hid hl
          have HTZ := Lib.hid hT
          have HBZ := Lib.hid hB
          clear hl hT hB
          obtain ⟨a52, ha⟩ : ∃ a, Y.heap.size = a := ⟨_, rfl⟩
          rw [ha] at HL52 ⊢
          clear ha
          refine hK.out _ _ ⟨HTZ.out, HBZ.out⟩ (fun hHeld => ?_)
          clear hK K
          try simp only [Act.put, List.setIfInBounds_toArray, List.set_cons_zero, List.set_cons_succ]
          refine wpAnyH_ready (rs := [53]) (by kernel_rfl) (by simp) ?_
          refine AllReadyH.cons (by simp only [List.getElem?_toArray, List.getElem?_cons_zero, List.getElem?_cons_succ]; rfl) (fun K hK => ?_) AllReadyH.nil
          try rw [if_pos (by rfl)]
          go_simp
          have hZ := C.size_ (some ⟨a52, 0, none⟩) 2 [z0, z1] Z HL52.out (Nat.le_refl _) (by show 2 ≤ 1000; decide) (by rw [HPz.out, List.length_append]; omega)
          rw [HPz.out, List.length_append] at hZ
          refine hZ.mono ?_
          rintro e V ⟨rfl, hb⟩
          have HTV := Lib.hid (HTZ.out.below hb)
          have HBV := Lib.hid (HBZ.out.trans (hb.mono HBZ.out.size))
          clear hZ hb
          go_wp2_with fail
          refine hK.out _ _ ⟨HTV.out, HBV.out⟩ (fun hHeld => ?_)
          clear hK K
          try simp only [Act.put, List.setIfInBounds_toArray, List.set_cons_zero, List.set_cons_succ]
          refine wpAnyH_take (i := 54) (v := ?_) (by simp only [List.getElem?_toArray, List.getElem?_cons_zero, List.getElem?_cons_succ]; rfl) (by kernel_rfl) (by kernel_rfl) (by kernel_rfl) (by exact fun _ _ _ h => h) (Or.inl ⟨by rfl, ?_⟩) (by assumption) ?_
          rotate_left
          · intro w hSw; (try dsimp only at hSw); go_simp; (try with_reducible rfl)
          try simp only [Act.put, List.setIfInBounds_toArray, List.set_cons_zero, List.set_cons_succ]
          refine wpAnyH_take (i := 55) (v := ?_) (by simp only [List.getElem?_toArray, List.getElem?_cons_zero, List.getElem?_cons_succ]; rfl) (by kernel_rfl) (by kernel_rfl) (by kernel_rfl) (by exact fun _ _ _ h => h) (Or.inl ⟨by rfl, ?_⟩) (by assumption) ?_
          rotate_left
          · intro w hSw; (try dsimp only at hSw); go_simp; (try with_reducible rfl)
          try simp only [Act.put, List.setIfInBounds_toArray, List.set_cons_zero, List.set_cons_succ]
          refine wpAnyH_take (i := 56) (v := ?_) (by simp only [List.getElem?_toArray, List.getElem?_cons_zero, List.getElem?_cons_succ]; rfl) (by kernel_rfl) (by kernel_rfl) (by kernel_rfl) (by exact fun _ _ _ h => h) (Or.inl ⟨by rfl, ?_⟩) (by assumption) ?_
          rotate_left
          · intro w hSw; (try dsimp only at hSw); go_simp; (try with_reducible rfl)
          try simp only [Act.put, List.setIfInBounds_toArray, List.set_cons_zero, List.set_cons_succ]
          refine wpAnyH_done (by kernel_rfl) ?_ _
          go_wp2_with fail
          go_ret
          exact ⟨rfl, HTV.out.bel⟩
      have K_36_37_39_40_42_43 := Lib.hid k0
      clear k0
      have k0 : ∀ (Y : World) (a36 : Nat) (a39 : Nat) (a42 : Nat), TwoL w Y z0 z1 → Below x6.heap.size x6 Y → RdL Y (some ⟨a42, 0, none⟩) [z1] → G 14 (((((L.setIfInBounds 36 true).setIfInBounds 37 true).setIfInBounds 39 true).setIfInBounds 40 true).setIfInBounds 42 true) (((((A.put (some 88) (.slice (some ⟨a36, 0, none⟩) 2 2)).put (some 89) (.int .i64 ((px.length : Int) + (py.length : Int)))).put (some 91) (.slice (some ⟨a39, 0, none⟩) 1 1)).put (some 92) (.int .i64 (px.length : Int))).put (some 94) (.slice (some ⟨a42, 0, none⟩) 1 1)) Y := by
        intro Y a36 a39 a42 hT hB hl42
        as_aux_lemma =>
          apply HUp.out
          rw [HA0.out, HL0.out]
          try simp only [Act.put, List.setIfInBounds_toArray, List.set_cons_zero, List.set_cons_succ]
          have hHeld : TwoL w Y z0 z1 ∧ Below x6.heap.size x6 Y := ⟨hT, hB⟩
          have HTY := Lib.hid hT
          have HBY := Lib.hid hB
          have HL42 := Lib.hid hl42
          clear hT hB hl42
          refine wpAnyH_ready (rs := [43]) (by kernel_rfl) (by simp) ?_
          refine AllReadyH.cons (by simp only [List.getElem?_toArray, List.getElem?_cons_zero, List.getElem?_cons_succ]; rfl) (fun K hK => ?_) AllReadyH.nil
          · try rw [if_pos (by rfl)]
            go_simp
            have hZ := C.size_ (some ⟨a42, 0, none⟩) 1 [z1] Y HL42.out (Nat.le_refl _) (by show 1 ≤ 1000; decide) (by rw [HPy.out]; omega)
            rw [HPy.out] at hZ
            refine hZ.mono ?_
            rintro e Z ⟨rfl, hb⟩
            have HTZ := Lib.hid (HTY.out.below hb)
            have HBZ := Lib.hid (HBY.out.trans (hb.mono HBY.out.size))
            clear hZ hb
            go_wp2_with fail
            refine hK.out _ _ ⟨HTZ.out, HBZ.out⟩ (fun hHeld => ?_)
            clear hK K
            try simp only [Act.put, List.setIfInBounds_toArray, List.set_cons_zero, List.set_cons_succ]
            refine HDown.out _ _ _ _ ?_
            have hk := K_36_37_39_40_42_43.out Z a36 a39 a42 HTZ.out HBZ.out 
            rw [HA0.out, HL0.out] at hk
            simp only [Act.put, List.setIfInBounds_toArray, List.set_cons_zero, List.set_cons_succ] at hk
            exact hk
      have K_36_37_39_40_42 := Lib.hid k0
      clear k0
      have k0 : ∀ (Y : World) (a36 : Nat) (a39 : Nat), TwoL w Y z0 z1 → Below x6.heap.size x6 Y → G 15 ((((L.setIfInBounds 36 true).setIfInBounds 37 true).setIfInBounds 39 true).setIfInBounds 40 true) ((((A.put (some 88) (.slice (some ⟨a36, 0, none⟩) 2 2)).put (some 89) (.int .i64 ((px.length : Int) + (py.length : Int)))).put (some 91) (.slice (some ⟨a39, 0, none⟩) 1 1)).put (some 92) (.int .i64 (px.length : Int))) Y := by
        intro Y a36 a39 hT hB 
        as_aux_lemma =>
          apply HUp.out
          rw [HA0.out, HL0.out]
          try simp only [Act.put, List.setIfInBounds_toArray, List.set_cons_zero, List.set_cons_succ]
          have hHeld : TwoL w Y z0 z1 ∧ Below x6.heap.size x6 Y := ⟨hT, hB⟩
          have HTY := Lib.hid hT
          have HBY := Lib.hid hB
          clear hT hB 
          refine wpAnyH_ready (rs := [42]) (by kernel_rfl) (by simp) ?_
          refine AllReadyH.cons (by simp only [List.getElem?_toArray, List.getElem?_cons_zero, List.getElem?_cons_succ]; rfl) (fun K hK => ?_) AllReadyH.nil
          · try rw [if_pos (by rfl)]
            go_simp
            obtain ⟨Z, hY⟩ : ∃ V, Y.alloc (.cells #[.int .u8 (z1.kind.toNat : Int), .slice z1.body.adr z1.body.bs.length z1.body.cap] 40) = V := ⟨_, rfl⟩
            have hl := HTY.out.lit1
            have hT := HTY.out.alloc (.cells #[.int .u8 (z1.kind.toNat : Int), .slice z1.body.adr z1.body.bs.length z1.body.cap] 40)
            have hB := HBY.out.alloc HBY.out.size (.cells #[.int .u8 (z1.kind.toNat : Int), .slice z1.body.adr z1.body.bs.length z1.body.cap] 40)
            rw [hY] at hl hT hB ⊢
            clear hY
            have HL42 := Lib.hid hl
            have HTZ := Lib.hid hT
            have HBZ := Lib.hid hB
            clear hl hT hB
            obtain ⟨a42, ha⟩ : ∃ a, Y.heap.size = a := ⟨_, rfl⟩
            rw [ha] at HL42 ⊢
            clear ha
            refine hK.out _ _ ⟨HTZ.out, HBZ.out⟩ (fun hHeld => ?_)
            clear hK K
            try simp only [Act.put, List.setIfInBounds_toArray, List.set_cons_zero, List.set_cons_succ]
            refine HDown.out _ _ _ _ ?_
            have hk := K_36_37_39_40_42.out Z a36 a39 a42 HTZ.out HBZ.out HL42.out
            rw [HA0.out, HL0.out] at hk
            simp only [Act.put, List.setIfInBounds_toArray, List.set_cons_zero, List.set_cons_succ] at hk
            exact hk
      have K_36_37_39_40 := Lib.hid k0
      clear k0
      have k0 : ∀ (Y : World) (a36 : Nat) (a39 : Nat) (a42 : Nat), TwoL w Y z0 z1 → Below x6.heap.size x6 Y → RdL Y (some ⟨a39, 0, none⟩) [z0] → RdL Y (some ⟨a42, 0, none⟩) [z1] → G 15 ((((L.setIfInBounds 36 true).setIfInBounds 37 true).setIfInBounds 39 true).setIfInBounds 42 true) ((((A.put (some 88) (.slice (some ⟨a36, 0, none⟩) 2 2)).put (some 89) (.int .i64 ((px.length : Int) + (py.length : Int)))).put (some 91) (.slice (some ⟨a39, 0, none⟩) 1 1)).put (some 94) (.slice (some ⟨a42, 0, none⟩) 1 1)) Y := by
        intro Y a36 a39 a42 hT hB hl39 hl42
        as_aux_lemma =>
          apply HUp.out
          rw [HA0.out, HL0.out]
          try simp only [Act.put, List.setIfInBounds_toArray, List.set_cons_zero, List.set_cons_succ]
          have hHeld : TwoL w Y z0 z1 ∧ Below x6.heap.size x6 Y := ⟨hT, hB⟩
          have HTY := Lib.hid hT
          have HBY := Lib.hid hB
          have HL39 := Lib.hid hl39
          have HL42 := Lib.hid hl42
          clear hT hB hl39 hl42
          refine wpAnyH_ready (rs := [40]) (by kernel_rfl) (by simp) ?_
          refine AllReadyH.cons (by simp only [List.getElem?_toArray, List.getElem?_cons_zero, List.getElem?_cons_succ]; rfl) (fun K hK => ?_) AllReadyH.nil
          · try rw [if_pos (by rfl)]
            go_simp
            have hZ := C.size_ (some ⟨a39, 0, none⟩) 1 [z0] Y HL39.out (Nat.le_refl _) (by show 1 ≤ 1000; decide) (by rw [HPx.out]; omega)
            rw [HPx.out] at hZ
            refine hZ.mono ?_
            rintro e Z ⟨rfl, hb⟩
            have HTZ := Lib.hid (HTY.out.below hb)
            have HBZ := Lib.hid (HBY.out.trans (hb.mono HBY.out.size))
            have HL42 := Lib.hid (HL42.out.below (Nat.le_refl _) hb)
            clear hZ hb
            go_wp2_with fail
            refine hK.out _ _ ⟨HTZ.out, HBZ.out⟩ (fun hHeld => ?_)
            clear hK K
            try simp only [Act.put, List.setIfInBounds_toArray, List.set_cons_zero, List.set_cons_succ]
            refine HDown.out _ _ _ _ ?_
            have hk := K_36_37_39_40_42.out Z a36 a39 a42 HTZ.out HBZ.out HL42.out
            rw [HA0.out, HL0.out] at hk
            simp only [Act.put, List.setIfInBounds_toArray, List.set_cons_zero, List.set_cons_succ] at hk
            exact hk
      have K_36_37_39_42 := Lib.hid k0
      clear k0
      have k0 : ∀ (Y : World) (a36 : Nat) (a39 : Nat), TwoL w Y z0 z1 → Below x6.heap.size x6 Y → RdL Y (some ⟨a39, 0, none⟩) [z0] → G 16 (((L.setIfInBounds 36 true).setIfInBounds 37 true).setIfInBounds 39 true) (((A.put (some 88) (.slice (some ⟨a36, 0, none⟩) 2 2)).put (some 89) (.int .i64 ((px.length : Int) + (py.length : Int)))).put (some 91) (.slice (some ⟨a39, 0, none⟩) 1 1)) Y := by
        intro Y a36 a39 hT hB hl39
        as_aux_lemma =>
          apply HUp.out
          rw [HA0.out, HL0.out]
          try simp only [Act.put, List.setIfInBounds_toArray, List.set_cons_zero, List.set_cons_succ]
          have hHeld : TwoL w Y z0 z1 ∧ Below x6.heap.size x6 Y := ⟨hT, hB⟩
          have HTY := Lib.hid hT
          have HBY := Lib.hid hB
          have HL39 := Lib.hid hl39
          clear hT hB hl39
          refine wpAnyH_ready (rs := [40, 42]) (by kernel_rfl) (by simp) ?_
          refine AllReadyH.cons (by simp only [List.getElem?_toArray, List.getElem?_cons_zero, List.getElem?_cons_succ]; rfl) (fun K hK => ?_) (AllReadyH.cons (by simp only [List.getElem?_toArray, List.getElem?_cons_zero, List.getElem?_cons_succ]; rfl) (fun K hK => ?_) AllReadyH.nil)
          · try rw [if_pos (by rfl)]
            go_simp
            have hZ := C.size_ (some ⟨a39, 0, none⟩) 1 [z0] Y HL39.out (Nat.le_refl _) (by show 1 ≤ 1000; decide) (by rw [HPx.out]; omega)
            rw [HPx.out] at hZ
            refine hZ.mono ?_
            rintro e Z ⟨rfl, hb⟩
            have HTZ := Lib.hid (HTY.out.below hb)
            have HBZ := Lib.hid (HBY.out.trans (hb.mono HBY.out.size))
            clear hZ hb
            go_wp2_with fail
            refine hK.out _ _ ⟨HTZ.out, HBZ.out⟩ (fun hHeld => ?_)
            clear hK K
            try simp only [Act.put, List.setIfInBounds_toArray, List.set_cons_zero, List.set_cons_succ]
            refine HDown.out _ _ _ _ ?_
            have hk := K_36_37_39_40.out Z a36 a39 HTZ.out HBZ.out 
            rw [HA0.out, HL0.out] at hk
            simp only [Act.put, List.setIfInBounds_toArray, List.set_cons_zero, List.set_cons_succ] at hk
            exact hk
          · try rw [if_pos (by rfl)]
            go_simp
            obtain ⟨Z, hY⟩ : ∃ V, Y.alloc (.cells #[.int .u8 (z1.kind.toNat : Int), .slice z1.body.adr z1.body.bs.length z1.body.cap] 40) = V := ⟨_, rfl⟩
            have hl := HTY.out.lit1
            have hT := HTY.out.alloc (.cells #[.int .u8 (z1.kind.toNat : Int), .slice z1.body.adr z1.body.bs.length z1.body.cap] 40)
            have hB := HBY.out.alloc HBY.out.size (.cells #[.int .u8 (z1.kind.toNat : Int), .slice z1.body.adr z1.body.bs.length z1.body.cap] 40)
            have hl39 := HL39.out.below (Nat.le_refl _) ((Below.refl Y.heap.size Y).alloc (Nat.le_refl _) (.cells #[.int .u8 (z1.kind.toNat : Int), .slice z1.body.adr z1.body.bs.length z1.body.cap] 40))
            rw [hY] at hl hT hB hl39 ⊢
            clear hY
            have HL39 := Lib.hid hl39
            have HL42 := Lib.hid hl
            have HTZ := Lib.hid hT
            have HBZ := Lib.hid hB
            clear hl hT hB hl39
            obtain ⟨a42, ha⟩ : ∃ a, Y.heap.size = a := ⟨_, rfl⟩
            rw [ha] at HL42 ⊢
            clear ha
            refine hK.out _ _ ⟨HTZ.out, HBZ.out⟩ (fun hHeld => ?_)
            clear hK K
            try simp only [Act.put, List.setIfInBounds_toArray, List.set_cons_zero, List.set_cons_succ]
            refine HDown.out _ _ _ _ ?_
            have hk := K_36_37_39_42.out Z a36 a39 a42 HTZ.out HBZ.out HL39.out HL42.out
            rw [HA0.out, HL0.out] at hk
            simp only [Act.put, List.setIfInBounds_toArray, List.set_cons_zero, List.set_cons_succ] at hk
            exact hk
      have K_36_37_39 := Lib.hid k0
      clear k0
      have k0 : ∀ (Y : World) (a36 : Nat) (a42 : Nat), TwoL w Y z0 z1 → Below x6.heap.size x6 Y → RdL Y (some ⟨a42, 0, none⟩) [z1] → G 16 (((L.setIfInBounds 36 true).setIfInBounds 37 true).setIfInBounds 42 true) (((A.put (some 88) (.slice (some ⟨a36, 0, none⟩) 2 2)).put (some 89) (.int .i64 ((px.length : Int) + (py.length : Int)))).put (some 94) (.slice (some ⟨a42, 0, none⟩) 1 1)) Y := by
        intro Y a36 a42 hT hB hl42
        as_aux_lemma =>
          apply HUp.out
          rw [HA0.out, HL0.out]
          try simp only [Act.put, List.setIfInBounds_toArray, List.set_cons_zero, List.set_cons_succ]
          have hHeld : TwoL w Y z0 z1 ∧ Below x6.heap.size x6 Y := ⟨hT, hB⟩
          have HTY := Lib.hid hT
          have HBY := Lib.hid hB
          have HL42 := Lib.hid hl42
          clear hT hB hl42
          refine wpAnyH_ready (rs := [39]) (by kernel_rfl) (by simp) ?_
          refine AllReadyH.cons (by simp only [List.getElem?_toArray, List.getElem?_cons_zero, List.getElem?_cons_succ]; rfl) (fun K hK => ?_) AllReadyH.nil
          · try rw [if_pos (by rfl)]
            go_simp
            obtain ⟨Z, hY⟩ : ∃ V, Y.alloc (.cells #[.int .u8 (z0.kind.toNat : Int), .slice z0.body.adr z0.body.bs.length z0.body.cap] 40) = V := ⟨_, rfl⟩
            have hl := HTY.out.lit0
            have hT := HTY.out.alloc (.cells #[.int .u8 (z0.kind.toNat : Int), .slice z0.body.adr z0.body.bs.length z0.body.cap] 40)
            have hB := HBY.out.alloc HBY.out.size (.cells #[.int .u8 (z0.kind.toNat : Int), .slice z0.body.adr z0.body.bs.length z0.body.cap] 40)
            have hl42 := HL42.out.below (Nat.le_refl _) ((Below.refl Y.heap.size Y).alloc (Nat.le_refl _) (.cells #[.int .u8 (z0.kind.toNat : Int), .slice z0.body.adr z0.body.bs.length z0.body.cap] 40))
            rw [hY] at hl hT hB hl42 ⊢
            clear hY
            have HL42 := Lib.hid hl42
            have HL39 := Lib.hid hl
            have HTZ := Lib.hid hT
            have HBZ := Lib.hid hB
            clear hl hT hB hl42
            obtain ⟨a39, ha⟩ : ∃ a, Y.heap.size = a := ⟨_, rfl⟩
            rw [ha] at HL39 ⊢
            clear ha
            refine hK.out _ _ ⟨HTZ.out, HBZ.out⟩ (fun hHeld => ?_)
            clear hK K
            try simp only [Act.put, List.setIfInBounds_toArray, List.set_cons_zero, List.set_cons_succ]
            refine HDown.out _ _ _ _ ?_
            have hk := K_36_37_39_42.out Z a36 a39 a42 HTZ.out HBZ.out HL39.out HL42.out
            rw [HA0.out, HL0.out] at hk
            simp only [Act.put, List.setIfInBounds_toArray, List.set_cons_zero, List.set_cons_succ] at hk
            exact hk
      have K_36_37_42 := Lib.hid k0
      clear k0
      have k0 : ∀ (Y : World) (a36 : Nat) (a39 : Nat) (a42 : Nat), TwoL w Y z0 z1 → Below x6.heap.size x6 Y → RdL Y (some ⟨a36, 0, none⟩) [z0, z1] → RdL Y (some ⟨a39, 0, none⟩) [z0] → RdL Y (some ⟨a42, 0, none⟩) [z1] → G 16 (((L.setIfInBounds 36 true).setIfInBounds 39 true).setIfInBounds 42 true) (((A.put (some 88) (.slice (some ⟨a36, 0, none⟩) 2 2)).put (some 91) (.slice (some ⟨a39, 0, none⟩) 1 1)).put (some 94) (.slice (some ⟨a42, 0, none⟩) 1 1)) Y := by
        intro Y a36 a39 a42 hT hB hl36 hl39 hl42
        as_aux_lemma =>
          apply HUp.out
          rw [HA0.out, HL0.out]
          try simp only [Act.put, List.setIfInBounds_toArray, List.set_cons_zero, List.set_cons_succ]
          have hHeld : TwoL w Y z0 z1 ∧ Below x6.heap.size x6 Y := ⟨hT, hB⟩
          have HTY := Lib.hid hT
          have HBY := Lib.hid hB
          have HL36 := Lib.hid hl36
          have HL39 := Lib.hid hl39
          have HL42 := Lib.hid hl42
          clear hT hB hl36 hl39 hl42
          refine wpAnyH_ready (rs := [37]) (by kernel_rfl) (by simp) ?_
          refine AllReadyH.cons (by simp only [List.getElem?_toArray, List.getElem?_cons_zero, List.getElem?_cons_succ]; rfl) (fun K hK => ?_) AllReadyH.nil
          · try rw [if_pos (by rfl)]
            go_simp
            have hZ := C.size_ (some ⟨a36, 0, none⟩) 2 [z0, z1] Y HL36.out (Nat.le_refl _) (by show 2 ≤ 1000; decide) (by rw [HPz.out, List.length_append]; omega)
            rw [HPz.out, List.length_append] at hZ
            refine hZ.mono ?_
            rintro e Z ⟨rfl, hb⟩
            have HTZ := Lib.hid (HTY.out.below hb)
            have HBZ := Lib.hid (HBY.out.trans (hb.mono HBY.out.size))
            have HL39 := Lib.hid (HL39.out.below (Nat.le_refl _) hb)
            have HL42 := Lib.hid (HL42.out.below (Nat.le_refl _) hb)
            clear hZ hb
            go_wp2_with fail
            refine hK.out _ _ ⟨HTZ.out, HBZ.out⟩ (fun hHeld => ?_)
            clear hK K
            try simp only [Act.put, List.setIfInBounds_toArray, List.set_cons_zero, List.set_cons_succ]
            refine HDown.out _ _ _ _ ?_
            have hk := K_36_37_39_42.out Z a36 a39 a42 HTZ.out HBZ.out HL39.out HL42.out
            rw [HA0.out, HL0.out] at hk
            simp only [Act.put, List.setIfInBounds_toArray, List.set_cons_zero, List.set_cons_succ] at hk
            exact hk
      have K_36_39_42 := Lib.hid k0
      clear k0
      have k0 : ∀ (Y : World) (a36 : Nat), TwoL w Y z0 z1 → Below x6.heap.size x6 Y → G 17 ((L.setIfInBounds 36 true).setIfInBounds 37 true) ((A.put (some 88) (.slice (some ⟨a36, 0, none⟩) 2 2)).put (some 89) (.int .i64 ((px.length : Int) + (py.length : Int)))) Y := by
        intro Y a36 hT hB 
        as_aux_lemma =>
          apply HUp.out
          rw [HA0.out, HL0.out]
          try simp only [Act.put, List.setIfInBounds_toArray, List.set_cons_zero, List.set_cons_succ]
          have hHeld : TwoL w Y z0 z1 ∧ Below x6.heap.size x6 Y := ⟨hT, hB⟩
          have HTY := Lib.hid hT
          have HBY := Lib.hid hB
          clear hT hB 
          refine wpAnyH_ready (rs := [39, 42]) (by kernel_rfl) (by simp) ?_
          refine AllReadyH.cons (by simp only [List.getElem?_toArray, List.getElem?_cons_zero, List.getElem?_cons_succ]; rfl) (fun K hK => ?_) (AllReadyH.cons (by simp only [List.getElem?_toArray, List.getElem?_cons_zero, List.getElem?_cons_succ]; rfl) (fun K hK => ?_) AllReadyH.nil)
          · try rw [if_pos (by rfl)]
            go_simp
            obtain ⟨Z, hY⟩ : ∃ V, Y.alloc (.cells #[.int .u8 (z0.kind.toNat : Int), .slice z0.body.adr z0.body.bs.length z0.body.cap] 40) = V := ⟨_, rfl⟩
            have hl := HTY.out.lit0
            have hT := HTY.out.alloc (.cells #[.int .u8 (z0.kind.toNat : Int), .slice z0.body.adr z0.body.bs.length z0.body.cap] 40)
            have hB := HBY.out.alloc HBY.out.size (.cells #[.int .u8 (z0.kind.toNat : Int), .slice z0.body.adr z0.body.bs.length z0.body.cap] 40)
            rw [hY] at hl hT hB ⊢
            clear hY
            have HL39 := Lib.hid hl
            have HTZ := Lib.hid hT
            have HBZ := Lib.hid hB
            clear hl hT hB
            obtain ⟨a39, ha⟩ : ∃ a, Y.heap.size = a := ⟨_, rfl⟩
            rw [ha] at HL39 ⊢
            clear ha
            refine hK.out _ _ ⟨HTZ.out, HBZ.out⟩ (fun hHeld => ?_)
            clear hK K
            try simp only [Act.put, List.setIfInBounds_toArray, List.set_cons_zero, List.set_cons_succ]
            refine HDown.out _ _ _ _ ?_
            have hk := K_36_37_39.out Z a36 a39 HTZ.out HBZ.out HL39.out
            rw [HA0.out, HL0.out] at hk
            simp only [Act.put, List.setIfInBounds_toArray, List.set_cons_zero, List.set_cons_succ] at hk
            exact hk
          · try rw [if_pos (by rfl)]
            go_simp
            obtain ⟨Z, hY⟩ : ∃ V, Y.alloc (.cells #[.int .u8 (z1.kind.toNat : Int), .slice z1.body.adr z1.body.bs.length z1.body.cap] 40) = V := ⟨_, rfl⟩
            have hl := HTY.out.lit1
            have hT := HTY.out.alloc (.cells #[.int .u8 (z1.kind.toNat : Int), .slice z1.body.adr z1.body.bs.length z1.body.cap] 40)
            have hB := HBY.out.alloc HBY.out.size (.cells #[.int .u8 (z1.kind.toNat : Int), .slice z1.body.adr z1.body.bs.length z1.body.cap] 40)
            rw [hY] at hl hT hB ⊢
            clear hY
            have HL42 := Lib.hid hl
            have HTZ := Lib.hid hT
            have HBZ := Lib.hid hB
            clear hl hT hB
            obtain ⟨a42, ha⟩ : ∃ a, Y.heap.size = a := ⟨_, rfl⟩
            rw [ha] at HL42 ⊢
            clear ha
            refine hK.out _ _ ⟨HTZ.out, HBZ.out⟩ (fun hHeld => ?_)
            clear hK K
            try simp only [Act.put, List.setIfInBounds_toArray, List.set_cons_zero, List.set_cons_succ]
            refine HDown.out _ _ _ _ ?_
            have hk := K_36_37_42.out Z a36 a42 HTZ.out HBZ.out HL42.out
            rw [HA0.out, HL0.out] at hk
            simp only [Act.put, List.setIfInBounds_toArray, List.set_cons_zero, List.set_cons_succ] at hk
            exact hk
      have K_36_37 := Lib.hid k0
      clear k0
      have k0 : ∀ (Y : World) (a36 : Nat) (a39 : Nat), TwoL w Y z0 z1 → Below x6.heap.size x6 Y → RdL Y (some ⟨a36, 0, none⟩) [z0, z1] → RdL Y (some ⟨a39, 0, none⟩) [z0] → G 17 ((L.setIfInBounds 36 true).setIfInBounds 39 true) ((A.put (some 88) (.slice (some ⟨a36, 0, none⟩) 2 2)).put (some 91) (.slice (some ⟨a39, 0, none⟩) 1 1)) Y := by
        intro Y a36 a39 hT hB hl36 hl39
        as_aux_lemma =>
          apply HUp.out
          rw [HA0.out, HL0.out]
          try simp only [Act.put, List.setIfInBounds_toArray, List.set_cons_zero, List.set_cons_succ]
          have hHeld : TwoL w Y z0 z1 ∧ Below x6.heap.size x6 Y := ⟨hT, hB⟩
          have HTY := Lib.hid hT
          have HBY := Lib.hid hB
          have HL36 := Lib.hid hl36
          have HL39 := Lib.hid hl39
          clear hT hB hl36 hl39
          refine wpAnyH_ready (rs := [37, 42]) (by kernel_rfl) (by simp) ?_
          refine AllReadyH.cons (by simp only [List.getElem?_toArray, List.getElem?_cons_zero, List.getElem?_cons_succ]; rfl) (fun K hK => ?_) (AllReadyH.cons (by simp only [List.getElem?_toArray, List.getElem?_cons_zero, List.getElem?_cons_succ]; rfl) (fun K hK => ?_) AllReadyH.nil)
          · try rw [if_pos (by rfl)]
            go_simp
            have hZ := C.size_ (some ⟨a36, 0, none⟩) 2 [z0, z1] Y HL36.out (Nat.le_refl _) (by show 2 ≤ 1000; decide) (by rw [HPz.out, List.length_append]; omega)
            rw [HPz.out, List.length_append] at hZ
            refine hZ.mono ?_
            rintro e Z ⟨rfl, hb⟩
            have HTZ := Lib.hid (HTY.out.below hb)
            have HBZ := Lib.hid (HBY.out.trans (hb.mono HBY.out.size))
            have HL39 := Lib.hid (HL39.out.below (Nat.le_refl _) hb)
            clear hZ hb
            go_wp2_with fail
            refine hK.out _ _ ⟨HTZ.out, HBZ.out⟩ (fun hHeld => ?_)
            clear hK K
            try simp only [Act.put, List.setIfInBounds_toArray, List.set_cons_zero, List.set_cons_succ]
            refine HDown.out _ _ _ _ ?_
            have hk := K_36_37_39.out Z a36 a39 HTZ.out HBZ.out HL39.out
            rw [HA0.out, HL0.out] at hk
            simp only [Act.put, List.setIfInBounds_toArray, List.set_cons_zero, List.set_cons_succ] at hk
            exact hk
          · try rw [if_pos (by rfl)]
            go_simp
            obtain ⟨Z, hY⟩ : ∃ V, Y.alloc (.cells #[.int .u8 (z1.kind.toNat : Int), .slice z1.body.adr z1.body.bs.length z1.body.cap] 40) = V := ⟨_, rfl⟩
            have hl := HTY.out.lit1
            have hT := HTY.out.alloc (.cells #[.int .u8 (z1.kind.toNat : Int), .slice z1.body.adr z1.body.bs.length z1.body.cap] 40)
            have hB := HBY.out.alloc HBY.out.size (.cells #[.int .u8 (z1.kind.toNat : Int), .slice z1.body.adr z1.body.bs.length z1.body.cap] 40)
            have hl36 := HL36.out.below (Nat.le_refl _) ((Below.refl Y.heap.size Y).alloc (Nat.le_refl _) (.cells #[.int .u8 (z1.kind.toNat : Int), .slice z1.body.adr z1.body.bs.length z1.body.cap] 40))
            have hl39 := HL39.out.below (Nat.le_refl _) ((Below.refl Y.heap.size Y).alloc (Nat.le_refl _) (.cells #[.int .u8 (z1.kind.toNat : Int), .slice z1.body.adr z1.body.bs.length z1.body.cap] 40))
            rw [hY] at hl hT hB hl36 hl39 ⊢
            clear hY
            have HL36 := Lib.hid hl36
            have HL39 := Lib.hid hl39
            have HL42 := Lib.hid hl
            have HTZ := Lib.hid hT
            have HBZ := Lib.hid hB
            clear hl hT hB hl36 hl39
            obtain ⟨a42, ha⟩ : ∃ a, Y.heap.size = a := ⟨_, rfl⟩
            rw [ha] at HL42 ⊢
            clear ha
            refine hK.out _ _ ⟨HTZ.out, HBZ.out⟩ (fun hHeld => ?_)
            clear hK K
            try simp only [Act.put, List.setIfInBounds_toArray, List.set_cons_zero, List.set_cons_succ]
            refine HDown.out _ _ _ _ ?_
            have hk := K_36_39_42.out Z a36 a39 a42 HTZ.out HBZ.out HL36.out HL39.out HL42.out
            rw [HA0.out, HL0.out] at hk
            simp only [Act.put, List.setIfInBounds_toArray, List.set_cons_zero, List.set_cons_succ] at hk
            exact hk
      have K_36_39 := Lib.hid k0
      clear k0
      have k0 : ∀ (Y : World) (a36 : Nat) (a42 : Nat), TwoL w Y z0 z1 → Below x6.heap.size x6 Y → RdL Y (some ⟨a36, 0, none⟩) [z0, z1] → RdL Y (some ⟨a42, 0, none⟩) [z1] → G 17 ((L.setIfInBounds 36 true).setIfInBounds 42 true) ((A.put (some 88) (.slice (some ⟨a36, 0, none⟩) 2 2)).put (some 94) (.slice (some ⟨a42, 0, none⟩) 1 1)) Y := by
        intro Y a36 a42 hT hB hl36 hl42
        as_aux_lemma =>
          apply HUp.out
          rw [HA0.out, HL0.out]
          try simp only [Act.put, List.setIfInBounds_toArray, List.set_cons_zero, List.set_cons_succ]
          have hHeld : TwoL w Y z0 z1 ∧ Below x6.heap.size x6 Y := ⟨hT, hB⟩
          have HTY := Lib.hid hT
          have HBY := Lib.hid hB
          have HL36 := Lib.hid hl36
          have HL42 := Lib.hid hl42
          clear hT hB hl36 hl42
          refine wpAnyH_ready (rs := [37, 39]) (by kernel_rfl) (by simp) ?_
          refine AllReadyH.cons (by simp only [List.getElem?_toArray, List.getElem?_cons_zero, List.getElem?_cons_succ]; rfl) (fun K hK => ?_) (AllReadyH.cons (by simp only [List.getElem?_toArray, List.getElem?_cons_zero, List.getElem?_cons_succ]; rfl) (fun K hK => ?_) AllReadyH.nil)
          · try rw [if_pos (by rfl)]
            go_simp
            have hZ := C.size_ (some ⟨a36, 0, none⟩) 2 [z0, z1] Y HL36.out (Nat.le_refl _) (by show 2 ≤ 1000; decide) (by rw [HPz.out, List.length_append]; omega)
            rw [HPz.out, List.length_append] at hZ
            refine hZ.mono ?_
            rintro e Z ⟨rfl, hb⟩
            have HTZ := Lib.hid (HTY.out.below hb)
            have HBZ := Lib.hid (HBY.out.trans (hb.mono HBY.out.size))
            have HL42 := Lib.hid (HL42.out.below (Nat.le_refl _) hb)
            clear hZ hb
            go_wp2_with fail
            refine hK.out _ _ ⟨HTZ.out, HBZ.out⟩ (fun hHeld => ?_)
            clear hK K
            try simp only [Act.put, List.setIfInBounds_toArray, List.set_cons_zero, List.set_cons_succ]
            refine HDown.out _ _ _ _ ?_
            have hk := K_36_37_42.out Z a36 a42 HTZ.out HBZ.out HL42.out
            rw [HA0.out, HL0.out] at hk
            simp only [Act.put, List.setIfInBounds_toArray, List.set_cons_zero, List.set_cons_succ] at hk
            exact hk
          · try rw [if_pos (by rfl)]
            go_simp
            obtain ⟨Z, hY⟩ : ∃ V, Y.alloc (.cells #[.int .u8 (z0.kind.toNat : Int), .slice z0.body.adr z0.body.bs.length z0.body.cap] 40) = V := ⟨_, rfl⟩
            have hl := HTY.out.lit0
            have hT := HTY.out.alloc (.cells #[.int .u8 (z0.kind.toNat : Int), .slice z0.body.adr z0.body.bs.length z0.body.cap] 40)
            have hB := HBY.out.alloc HBY.out.size (.cells #[.int .u8 (z0.kind.toNat : Int), .slice z0.body.adr z0.body.bs.length z0.body.cap] 40)
            have hl36 := HL36.out.below (Nat.le_refl _) ((Below.refl Y.heap.size Y).alloc (Nat.le_refl _) (.cells #[.int .u8 (z0.kind.toNat : Int), .slice z0.body.adr z0.body.bs.length z0.body.cap] 40))
            have hl42 := HL42.out.below (Nat.le_refl _) ((Below.refl Y.heap.size Y).alloc (Nat.le_refl _) (.cells #[.int .u8 (z0.kind.toNat : Int), .slice z0.body.adr z0.body.bs.length z0.body.cap] 40))
            rw [hY] at hl hT hB hl36 hl42 ⊢
            clear hY
            have HL36 := Lib.hid hl36
            have HL42 := Lib.hid hl42
            have HL39 := Lib.hid hl
            have HTZ := Lib.hid hT
            have HBZ := Lib.hid hB
            clear hl hT hB hl36 hl42
            obtain ⟨a39, ha⟩ : ∃ a, Y.heap.size = a := ⟨_, rfl⟩
            rw [ha] at HL39 ⊢
            clear ha
            refine hK.out _ _ ⟨HTZ.out, HBZ.out⟩ (fun hHeld => ?_)
            clear hK K
            try simp only [Act.put, List.setIfInBounds_toArray, List.set_cons_zero, List.set_cons_succ]
            refine HDown.out _ _ _ _ ?_
            have hk := K_36_39_42.out Z a36 a39 a42 HTZ.out HBZ.out HL36.out HL39.out HL42.out
            rw [HA0.out, HL0.out] at hk
            simp only [Act.put, List.setIfInBounds_toArray, List.set_cons_zero, List.set_cons_succ] at hk
            exact hk
      have K_36_42 := Lib.hid k0
      clear k0
      have k0 : ∀ (Y : World) (a39 : Nat) (a42 : Nat), TwoL w Y z0 z1 → Below x6.heap.size x6 Y → RdL Y (some ⟨a39, 0, none⟩) [z0] → RdL Y (some ⟨a42, 0, none⟩) [z1] → G 17 ((L.setIfInBounds 39 true).setIfInBounds 42 true) ((A.put (some 91) (.slice (some ⟨a39, 0, none⟩) 1 1)).put (some 94) (.slice (some ⟨a42, 0, none⟩) 1 1)) Y := by
        intro Y a39 a42 hT hB hl39 hl42
        as_aux_lemma =>
          apply HUp.out
          rw [HA0.out, HL0.out]
          try simp only [Act.put, List.setIfInBounds_toArray, List.set_cons_zero, List.set_cons_succ]
          have hHeld : TwoL w Y z0 z1 ∧ Below x6.heap.size x6 Y := ⟨hT, hB⟩
          have HTY := Lib.hid hT
          have HBY := Lib.hid hB
          have HL39 := Lib.hid hl39
          have HL42 := Lib.hid hl42
          clear hT hB hl39 hl42
          refine wpAnyH_ready (rs := [36]) (by kernel_rfl) (by simp) ?_
          refine AllReadyH.cons (by simp only [List.getElem?_toArray, List.getElem?_cons_zero, List.getElem?_cons_succ]; rfl) (fun K hK => ?_) AllReadyH.nil
          · try rw [if_pos (by rfl)]
            go_simp
            obtain ⟨Z, hY⟩ : ∃ V, Y.alloc (.cells #[.int .u8 (z0.kind.toNat : Int), .slice z0.body.adr z0.body.bs.length z0.body.cap, .int .u8 (z1.kind.toNat : Int), .slice z1.body.adr z1.body.bs.length z1.body.cap] 40) = V := ⟨_, rfl⟩
            have hl := HTY.out.lit2
            have hT := HTY.out.alloc (.cells #[.int .u8 (z0.kind.toNat : Int), .slice z0.body.adr z0.body.bs.length z0.body.cap, .int .u8 (z1.kind.toNat : Int), .slice z1.body.adr z1.body.bs.length z1.body.cap] 40)
            have hB := HBY.out.alloc HBY.out.size (.cells #[.int .u8 (z0.kind.toNat : Int), .slice z0.body.adr z0.body.bs.length z0.body.cap, .int .u8 (z1.kind.toNat : Int), .slice z1.body.adr z1.body.bs.length z1.body.cap] 40)
            have hl39 := HL39.out.below (Nat.le_refl _) ((Below.refl Y.heap.size Y).alloc (Nat.le_refl _) (.cells #[.int .u8 (z0.kind.toNat : Int), .slice z0.body.adr z0.body.bs.length z0.body.cap, .int .u8 (z1.kind.toNat : Int), .slice z1.body.adr z1.body.bs.length z1.body.cap] 40))
            have hl42 := HL42.out.below (Nat.le_refl _) ((Below.refl Y.heap.size Y).alloc (Nat.le_refl _) (.cells #[.int .u8 (z0.kind.toNat : Int), .slice z0.body.adr z0.body.bs.length z0.body.cap, .int .u8 (z1.kind.toNat : Int), .slice z1.body.adr z1.body.bs.length z1.body.cap] 40))
            rw [hY] at hl hT hB hl39 hl42 ⊢
            clear hY
            have HL39 := Lib.hid hl39
            have HL42 := Lib.hid hl42
            have HL36 := Lib.hid hl
            have HTZ := Lib.hid hT
            have HBZ := Lib.hid hB
            clear hl hT hB hl39 hl42
            obtain ⟨a36, ha⟩ : ∃ a, Y.heap.size = a := ⟨_, rfl⟩
            rw [ha] at HL36 ⊢
            clear ha
            refine hK.out _ _ ⟨HTZ.out, HBZ.out⟩ (fun hHeld => ?_)
            clear hK K
            try simp only [Act.put, List.setIfInBounds_toArray, List.set_cons_zero, List.set_cons_succ]
            refine HDown.out _ _ _ _ ?_
            have hk := K_36_39_42.out Z a36 a39 a42 HTZ.out HBZ.out HL36.out HL39.out HL42.out
            rw [HA0.out, HL0.out] at hk
            simp only [Act.put, List.setIfInBounds_toArray, List.set_cons_zero, List.set_cons_succ] at hk
            exact hk
      have K_39_42 := Lib.hid k0
      clear k0
      have k0 : ∀ (Y : World) (a36 : Nat), TwoL w Y z0 z1 → Below x6.heap.size x6 Y → RdL Y (some ⟨a36, 0, none⟩) [z0, z1] → G 18 (L.setIfInBounds 36 true) (A.put (some 88) (.slice (some ⟨a36, 0, none⟩) 2 2)) Y := by
        intro Y a36 hT hB hl36
        as_aux_lemma =>
          apply HUp.out
          rw [HA0.out, HL0.out]
          try simp only [Act.put, List.setIfInBounds_toArray, List.set_cons_zero, List.set_cons_succ]
          have hHeld : TwoL w Y z0 z1 ∧ Below x6.heap.size x6 Y := ⟨hT, hB⟩
          have HTY := Lib.hid hT
          have HBY := Lib.hid hB
          have HL36 := Lib.hid hl36
          clear hT hB hl36
          refine wpAnyH_ready (rs := [37, 39, 42]) (by kernel_rfl) (by simp) ?_
          refine AllReadyH.cons (by simp only [List.getElem?_toArray, List.getElem?_cons_zero, List.getElem?_cons_succ]; rfl) (fun K hK => ?_) (AllReadyH.cons (by simp only [List.getElem?_toArray, List.getElem?_cons_zero, List.getElem?_cons_succ]; rfl) (fun K hK => ?_) (AllReadyH.cons (by simp only [List.getElem?_toArray, List.getElem?_cons_zero, List.getElem?_cons_succ]; rfl) (fun K hK => ?_) AllReadyH.nil))
          · try rw [if_pos (by rfl)]
            go_simp
            have hZ := C.size_ (some ⟨a36, 0, none⟩) 2 [z0, z1] Y HL36.out (Nat.le_refl _) (by show 2 ≤ 1000; decide) (by rw [HPz.out, List.length_append]; omega)
            rw [HPz.out, List.length_append] at hZ
            refine hZ.mono ?_
            rintro e Z ⟨rfl, hb⟩
            have HTZ := Lib.hid (HTY.out.below hb)
            have HBZ := Lib.hid (HBY.out.trans (hb.mono HBY.out.size))
            clear hZ hb
            go_wp2_with fail
            refine hK.out _ _ ⟨HTZ.out, HBZ.out⟩ (fun hHeld => ?_)
            clear hK K
            try simp only [Act.put, List.setIfInBounds_toArray, List.set_cons_zero, List.set_cons_succ]
            refine HDown.out _ _ _ _ ?_
            have hk := K_36_37.out Z a36 HTZ.out HBZ.out 
            rw [HA0.out, HL0.out] at hk
            simp only [Act.put, List.setIfInBounds_toArray, List.set_cons_zero, List.set_cons_succ] at hk
            exact hk
          · try rw [if_pos (by rfl)]
            go_simp
            obtain ⟨Z, hY⟩ : ∃ V, Y.alloc (.cells #[.int .u8 (z0.kind.toNat : Int), .slice z0.body.adr z0.body.bs.length z0.body.cap] 40) = V := ⟨_, rfl⟩
            have hl := HTY.out.lit0
            have hT := HTY.out.alloc (.cells #[.int .u8 (z0.kind.toNat : Int), .slice z0.body.adr z0.body.bs.length z0.body.cap] 40)
            have hB := HBY.out.alloc HBY.out.size (.cells #[.int .u8 (z0.kind.toNat : Int), .slice z0.body.adr z0.body.bs.length z0.body.cap] 40)
            have hl36 := HL36.out.below (Nat.le_refl _) ((Below.refl Y.heap.size Y).alloc (Nat.le_refl _) (.cells #[.int .u8 (z0.kind.toNat : Int), .slice z0.body.adr z0.body.bs.length z0.body.cap] 40))
            rw [hY] at hl hT hB hl36 ⊢
            clear hY
            have HL36 := Lib.hid hl36
            have HL39 := Lib.hid hl
            have HTZ := Lib.hid hT
            have HBZ := Lib.hid hB
            clear hl hT hB hl36
            obtain ⟨a39, ha⟩ : ∃ a, Y.heap.size = a := ⟨_, rfl⟩
            rw [ha] at HL39 ⊢
            clear ha
            refine hK.out _ _ ⟨HTZ.out, HBZ.out⟩ (fun hHeld => ?_)
            clear hK K
            try simp only [Act.put, List.setIfInBounds_toArray, List.set_cons_zero, List.set_cons_succ]
            refine HDown.out _ _ _ _ ?_
            have hk := K_36_39.out Z a36 a39 HTZ.out HBZ.out HL36.out HL39.out
            rw [HA0.out, HL0.out] at hk
            simp only [Act.put, List.setIfInBounds_toArray, List.set_cons_zero, List.set_cons_succ] at hk
            exact hk
          · try rw [if_pos (by rfl)]
            go_simp
            obtain ⟨Z, hY⟩ : ∃ V, Y.alloc (.cells #[.int .u8 (z1.kind.toNat : Int), .slice z1.body.adr z1.body.bs.length z1.body.cap] 40) = V := ⟨_, rfl⟩
            have hl := HTY.out.lit1
            have hT := HTY.out.alloc (.cells #[.int .u8 (z1.kind.toNat : Int), .slice z1.body.adr z1.body.bs.length z1.body.cap] 40)
            have hB := HBY.out.alloc HBY.out.size (.cells #[.int .u8 (z1.kind.toNat : Int), .slice z1.body.adr z1.body.bs.length z1.body.cap] 40)
            have hl36 := HL36.out.below (Nat.le_refl _) ((Below.refl Y.heap.size Y).alloc (Nat.le_refl _) (.cells #[.int .u8 (z1.kind.toNat : Int), .slice z1.body.adr z1.body.bs.length z1.body.cap] 40))
            rw [hY] at hl hT hB hl36 ⊢
            clear hY
            have HL36 := Lib.hid hl36
            have HL42 := Lib.hid hl
            have HTZ := Lib.hid hT
            have HBZ := Lib.hid hB
            clear hl hT hB hl36
            obtain ⟨a42, ha⟩ : ∃ a, Y.heap.size = a := ⟨_, rfl⟩
            rw [ha] at HL42 ⊢
            clear ha
            refine hK.out _ _ ⟨HTZ.out, HBZ.out⟩ (fun hHeld => ?_)
            clear hK K
            try simp only [Act.put, List.setIfInBounds_toArray, List.set_cons_zero, List.set_cons_succ]
            refine HDown.out _ _ _ _ ?_
            have hk := K_36_42.out Z a36 a42 HTZ.out HBZ.out HL36.out HL42.out
            rw [HA0.out, HL0.out] at hk
            simp only [Act.put, List.setIfInBounds_toArray, List.set_cons_zero, List.set_cons_succ] at hk
            exact hk
      have K_36 := Lib.hid k0
      clear k0
      have k0 : ∀ (Y : World) (a39 : Nat), TwoL w Y z0 z1 → Below x6.heap.size x6 Y → RdL Y (some ⟨a39, 0, none⟩) [z0] → G 18 (L.setIfInBounds 39 true) (A.put (some 91) (.slice (some ⟨a39, 0, none⟩) 1 1)) Y := by
        intro Y a39 hT hB hl39
        as_aux_lemma =>
          apply HUp.out
          rw [HA0.out, HL0.out]
          try simp only [Act.put, List.setIfInBounds_toArray, List.set_cons_zero, List.set_cons_succ]
          have hHeld : TwoL w Y z0 z1 ∧ Below x6.heap.size x6 Y := ⟨hT, hB⟩
          have HTY := Lib.hid hT
          have HBY := Lib.hid hB
          have HL39 := Lib.hid hl39
          clear hT hB hl39
          refine wpAnyH_ready (rs := [36, 42]) (by kernel_rfl) (by simp) ?_
          refine AllReadyH.cons (by simp only [List.getElem?_toArray, List.getElem?_cons_zero, List.getElem?_cons_succ]; rfl) (fun K hK => ?_) (AllReadyH.cons (by simp only [List.getElem?_toArray, List.getElem?_cons_zero, List.getElem?_cons_succ]; rfl) (fun K hK => ?_) AllReadyH.nil)
          · try rw [if_pos (by rfl)]
            go_simp
            obtain ⟨Z, hY⟩ : ∃ V, Y.alloc (.cells #[.int .u8 (z0.kind.toNat : Int), .slice z0.body.adr z0.body.bs.length z0.body.cap, .int .u8 (z1.kind.toNat : Int), .slice z1.body.adr z1.body.bs.length z1.body.cap] 40) = V := ⟨_, rfl⟩
            have hl := HTY.out.lit2
            have hT := HTY.out.alloc (.cells #[.int .u8 (z0.kind.toNat : Int), .slice z0.body.adr z0.body.bs.length z0.body.cap, .int .u8 (z1.kind.toNat : Int), .slice z1.body.adr z1.body.bs.length z1.body.cap] 40)
            have hB := HBY.out.alloc HBY.out.size (.cells #[.int .u8 (z0.kind.toNat : Int), .slice z0.body.adr z0.body.bs.length z0.body.cap, .int .u8 (z1.kind.toNat : Int), .slice z1.body.adr z1.body.bs.length z1.body.cap] 40)
            have hl39 := HL39.out.below (Nat.le_refl _) ((Below.refl Y.heap.size Y).alloc (Nat.le_refl _) (.cells #[.int .u8 (z0.kind.toNat : Int), .slice z0.body.adr z0.body.bs.length z0.body.cap, .int .u8 (z1.kind.toNat : Int), .slice z1.body.adr z1.body.bs.length z1.body.cap] 40))
            rw [hY] at hl hT hB hl39 ⊢
            clear hY
            have HL39 := Lib.hid hl39
            have HL36 := Lib.hid hl
            have HTZ := Lib.hid hT
            have HBZ := Lib.hid hB
            clear hl hT hB hl39
            obtain ⟨a36, ha⟩ : ∃ a, Y.heap.size = a := ⟨_, rfl⟩
            rw [ha] at HL36 ⊢
            clear ha
            refine hK.out _ _ ⟨HTZ.out, HBZ.out⟩ (fun hHeld => ?_)
            clear hK K
            try simp only [Act.put, List.setIfInBounds_toArray, List.set_cons_zero, List.set_cons_succ]
            refine HDown.out _ _ _ _ ?_
            have hk := K_36_39.out Z a36 a39 HTZ.out HBZ.out HL36.out HL39.out
            rw [HA0.out, HL0.out] at hk
            simp only [Act.put, List.setIfInBounds_toArray, List.set_cons_zero, List.set_cons_succ] at hk
            exact hk
          · try rw [if_pos (by rfl)]
            go_simp
            obtain ⟨Z, hY⟩ : ∃ V, Y.alloc (.cells #[.int .u8 (z1.kind.toNat : Int), .slice z1.body.adr z1.body.bs.length z1.body.cap] 40) = V := ⟨_, rfl⟩
            have hl := HTY.out.lit1
            have hT := HTY.out.alloc (.cells #[.int .u8 (z1.kind.toNat : Int), .slice z1.body.adr z1.body.bs.length z1.body.cap] 40)
            have hB := HBY.out.alloc HBY.out.size (.cells #[.int .u8 (z1.kind.toNat : Int), .slice z1.body.adr z1.body.bs.length z1.body.cap] 40)
            have hl39 := HL39.out.below (Nat.le_refl _) ((Below.refl Y.heap.size Y).alloc (Nat.le_refl _) (.cells #[.int .u8 (z1.kind.toNat : Int), .slice z1.body.adr z1.body.bs.length z1.body.cap] 40))
            rw [hY] at hl hT hB hl39 ⊢
            clear hY
            have HL39 := Lib.hid hl39
            have HL42 := Lib.hid hl
            have HTZ := Lib.hid hT
            have HBZ := Lib.hid hB
            clear hl hT hB hl39
            obtain ⟨a42, ha⟩ : ∃ a, Y.heap.size = a := ⟨_, rfl⟩
            rw [ha] at HL42 ⊢
            clear ha
            refine hK.out _ _ ⟨HTZ.out, HBZ.out⟩ (fun hHeld => ?_)
            clear hK K
            try simp only [Act.put, List.setIfInBounds_toArray, List.set_cons_zero, List.set_cons_succ]
            refine HDown.out _ _ _ _ ?_
            have hk := K_39_42.out Z a39 a42 HTZ.out HBZ.out HL39.out HL42.out
            rw [HA0.out, HL0.out] at hk
            simp only [Act.put, List.setIfInBounds_toArray, List.set_cons_zero, List.set_cons_succ] at hk
            exact hk
      have K_39 := Lib.hid k0
      clear k0
      have k0 : ∀ (Y : World) (a42 : Nat), TwoL w Y z0 z1 → Below x6.heap.size x6 Y → RdL Y (some ⟨a42, 0, none⟩) [z1] → G 18 (L.setIfInBounds 42 true) (A.put (some 94) (.slice (some ⟨a42, 0, none⟩) 1 1)) Y := by
        intro Y a42 hT hB hl42
        as_aux_lemma =>
          apply HUp.out
          rw [HA0.out, HL0.out]
          try simp only [Act.put, List.setIfInBounds_toArray, List.set_cons_zero, List.set_cons_succ]
          have hHeld : TwoL w Y z0 z1 ∧ Below x6.heap.size x6 Y := ⟨hT, hB⟩
          have HTY := Lib.hid hT
          have HBY := Lib.hid hB
          have HL42 := Lib.hid hl42
          clear hT hB hl42
          refine wpAnyH_ready (rs := [36, 39]) (by kernel_rfl) (by simp) ?_
          refine AllReadyH.cons (by simp only [List.getElem?_toArray, List.getElem?_cons_zero, List.getElem?_cons_succ]; rfl) (fun K hK => ?_) (AllReadyH.cons (by simp only [List.getElem?_toArray, List.getElem?_cons_zero, List.getElem?_cons_succ]; rfl) (fun K hK => ?_) AllReadyH.nil)
          · try rw [if_pos (by rfl)]
            go_simp
            obtain ⟨Z, hY⟩ : ∃ V, Y.alloc (.cells #[.int .u8 (z0.kind.toNat : Int), .slice z0.body.adr z0.body.bs.length z0.body.cap, .int .u8 (z1.kind.toNat : Int), .slice z1.body.adr z1.body.bs.length z1.body.cap] 40) = V := ⟨_, rfl⟩
            have hl := HTY.out.lit2
            have hT := HTY.out.alloc (.cells #[.int .u8 (z0.kind.toNat : Int), .slice z0.body.adr z0.body.bs.length z0.body.cap, .int .u8 (z1.kind.toNat : Int), .slice z1.body.adr z1.body.bs.length z1.body.cap] 40)
            have hB := HBY.out.alloc HBY.out.size (.cells #[.int .u8 (z0.kind.toNat : Int), .slice z0.body.adr z0.body.bs.length z0.body.cap, .int .u8 (z1.kind.toNat : Int), .slice z1.body.adr z1.body.bs.length z1.body.cap] 40)
            have hl42 := HL42.out.below (Nat.le_refl _) ((Below.refl Y.heap.size Y).alloc (Nat.le_refl _) (.cells #[.int .u8 (z0.kind.toNat : Int), .slice z0.body.adr z0.body.bs.length z0.body.cap, .int .u8 (z1.kind.toNat : Int), .slice z1.body.adr z1.body.bs.length z1.body.cap] 40))
            rw [hY] at hl hT hB hl42 ⊢
            clear hY
            have HL42 := Lib.hid hl42
            have HL36 := Lib.hid hl
            have HTZ := Lib.hid hT
            have HBZ := Lib.hid hB
            clear hl hT hB hl42
            obtain ⟨a36, ha⟩ : ∃ a, Y.heap.size = a := ⟨_, rfl⟩
            rw [ha] at HL36 ⊢
            clear ha
            refine hK.out _ _ ⟨HTZ.out, HBZ.out⟩ (fun hHeld => ?_)
            clear hK K
            try simp only [Act.put, List.setIfInBounds_toArray, List.set_cons_zero, List.set_cons_succ]
            refine HDown.out _ _ _ _ ?_
            have hk := K_36_42.out Z a36 a42 HTZ.out HBZ.out HL36.out HL42.out
            rw [HA0.out, HL0.out] at hk
            simp only [Act.put, List.setIfInBounds_toArray, List.set_cons_zero, List.set_cons_succ] at hk
            exact hk
          · try rw [if_pos (by rfl)]
            go_simp
            obtain ⟨Z, hY⟩ : ∃ V, Y.alloc (.cells #[.int .u8 (z0.kind.toNat : Int), .slice z0.body.adr z0.body.bs.length z0.body.cap] 40) = V := ⟨_, rfl⟩
            have hl := HTY.out.lit0
            have hT := HTY.out.alloc (.cells #[.int .u8 (z0.kind.toNat : Int), .slice z0.body.adr z0.body.bs.length z0.body.cap] 40)
            have hB := HBY.out.alloc HBY.out.size (.cells #[.int .u8 (z0.kind.toNat : Int), .slice z0.body.adr z0.body.bs.length z0.body.cap] 40)
            have hl42 := HL42.out.below (Nat.le_refl _) ((Below.refl Y.heap.size Y).alloc (Nat.le_refl _) (.cells #[.int .u8 (z0.kind.toNat : Int), .slice z0.body.adr z0.body.bs.length z0.body.cap] 40))
            rw [hY] at hl hT hB hl42 ⊢
            clear hY
            have HL42 := Lib.hid hl42
            have HL39 := Lib.hid hl
            have HTZ := Lib.hid hT
            have HBZ := Lib.hid hB
            clear hl hT hB hl42
            obtain ⟨a39, ha⟩ : ∃ a, Y.heap.size = a := ⟨_, rfl⟩
            rw [ha] at HL39 ⊢
            clear ha
            refine hK.out _ _ ⟨HTZ.out, HBZ.out⟩ (fun hHeld => ?_)
            clear hK K
            try simp only [Act.put, List.setIfInBounds_toArray, List.set_cons_zero, List.set_cons_succ]
            refine HDown.out _ _ _ _ ?_
            have hk := K_39_42.out Z a39 a42 HTZ.out HBZ.out HL39.out HL42.out
            rw [HA0.out, HL0.out] at hk
            simp only [Act.put, List.setIfInBounds_toArray, List.set_cons_zero, List.set_cons_succ] at hk
            exact hk
      have K_42 := Lib.hid k0
      clear k0
      have k0 : ∀ (Y : World), TwoL w Y z0 z1 → Below x6.heap.size x6 Y → G 19 L A Y := by
        intro Y  hT hB 
        as_aux_lemma =>
          apply HUp.out
          rw [HA0.out, HL0.out]
          try simp only [Act.put, List.setIfInBounds_toArray, List.set_cons_zero, List.set_cons_succ]
          have hHeld : TwoL w Y z0 z1 ∧ Below x6.heap.size x6 Y := ⟨hT, hB⟩
          have HTY := Lib.hid hT
          have HBY := Lib.hid hB
          clear hT hB 
          refine wpAnyH_ready (rs := [36, 39, 42]) (by kernel_rfl) (by simp) ?_
          refine AllReadyH.cons (by simp only [List.getElem?_toArray, List.getElem?_cons_zero, List.getElem?_cons_succ]; rfl) (fun K hK => ?_) (AllReadyH.cons (by simp only [List.getElem?_toArray, List.getElem?_cons_zero, List.getElem?_cons_succ]; rfl) (fun K hK => ?_) (AllReadyH.cons (by simp only [List.getElem?_toArray, List.getElem?_cons_zero, List.getElem?_cons_succ]; rfl) (fun K hK => ?_) AllReadyH.nil))
          · try rw [if_pos (by rfl)]
            go_simp
            obtain ⟨Z, hY⟩ : ∃ V, Y.alloc (.cells #[.int .u8 (z0.kind.toNat : Int), .slice z0.body.adr z0.body.bs.length z0.body.cap, .int .u8 (z1.kind.toNat : Int), .slice z1.body.adr z1.body.bs.length z1.body.cap] 40) = V := ⟨_, rfl⟩
            have hl := HTY.out.lit2
            have hT := HTY.out.alloc (.cells #[.int .u8 (z0.kind.toNat : Int), .slice z0.body.adr z0.body.bs.length z0.body.cap, .int .u8 (z1.kind.toNat : Int), .slice z1.body.adr z1.body.bs.length z1.body.cap] 40)
            have hB := HBY.out.alloc HBY.out.size (.cells #[.int .u8 (z0.kind.toNat : Int), .slice z0.body.adr z0.body.bs.length z0.body.cap, .int .u8 (z1.kind.toNat : Int), .slice z1.body.adr z1.body.bs.length z1.body.cap] 40)
            rw [hY] at hl hT hB ⊢
            clear hY
            have HL36 := Lib.hid hl
            have HTZ := Lib.hid hT
            have HBZ := Lib.hid hB
            clear hl hT hB
            obtain ⟨a36, ha⟩ : ∃ a, Y.heap.size = a := ⟨_, rfl⟩
            rw [ha] at HL36 ⊢
            clear ha
            refine hK.out _ _ ⟨HTZ.out, HBZ.out⟩ (fun hHeld => ?_)
            clear hK K
            try simp only [Act.put, List.setIfInBounds_toArray, List.set_cons_zero, List.set_cons_succ]
            refine HDown.out _ _ _ _ ?_
            have hk := K_36.out Z a36 HTZ.out HBZ.out HL36.out
            rw [HA0.out, HL0.out] at hk
            simp only [Act.put, List.setIfInBounds_toArray, List.set_cons_zero, List.set_cons_succ] at hk
            exact hk
          · try rw [if_pos (by rfl)]
            go_simp
            obtain ⟨Z, hY⟩ : ∃ V, Y.alloc (.cells #[.int .u8 (z0.kind.toNat : Int), .slice z0.body.adr z0.body.bs.length z0.body.cap] 40) = V := ⟨_, rfl⟩
            have hl := HTY.out.lit0
            have hT := HTY.out.alloc (.cells #[.int .u8 (z0.kind.toNat : Int), .slice z0.body.adr z0.body.bs.length z0.body.cap] 40)
            have hB := HBY.out.alloc HBY.out.size (.cells #[.int .u8 (z0.kind.toNat : Int), .slice z0.body.adr z0.body.bs.length z0.body.cap] 40)
            rw [hY] at hl hT hB ⊢
            clear hY
            have HL39 := Lib.hid hl
            have HTZ := Lib.hid hT
            have HBZ := Lib.hid hB
            clear hl hT hB
            obtain ⟨a39, ha⟩ : ∃ a, Y.heap.size = a := ⟨_, rfl⟩
            rw [ha] at HL39 ⊢
            clear ha
            refine hK.out _ _ ⟨HTZ.out, HBZ.out⟩ (fun hHeld => ?_)
            clear hK K
            try simp only [Act.put, List.setIfInBounds_toArray, List.set_cons_zero, List.set_cons_succ]
            refine HDown.out _ _ _ _ ?_
            have hk := K_39.out Z a39 HTZ.out HBZ.out HL39.out
            rw [HA0.out, HL0.out] at hk
            simp only [Act.put, List.setIfInBounds_toArray, List.set_cons_zero, List.set_cons_succ] at hk
            exact hk
          · try rw [if_pos (by rfl)]
            go_simp
            obtain ⟨Z, hY⟩ : ∃ V, Y.alloc (.cells #[.int .u8 (z1.kind.toNat : Int), .slice z1.body.adr z1.body.bs.length z1.body.cap] 40) = V := ⟨_, rfl⟩
            have hl := HTY.out.lit1
            have hT := HTY.out.alloc (.cells #[.int .u8 (z1.kind.toNat : Int), .slice z1.body.adr z1.body.bs.length z1.body.cap] 40)
            have hB := HBY.out.alloc HBY.out.size (.cells #[.int .u8 (z1.kind.toNat : Int), .slice z1.body.adr z1.body.bs.length z1.body.cap] 40)
            rw [hY] at hl hT hB ⊢
            clear hY
            have HL42 := Lib.hid hl
            have HTZ := Lib.hid hT
            have HBZ := Lib.hid hB
            clear hl hT hB
            obtain ⟨a42, ha⟩ : ∃ a, Y.heap.size = a := ⟨_, rfl⟩
            rw [ha] at HL42 ⊢
            clear ha
            refine hK.out _ _ ⟨HTZ.out, HBZ.out⟩ (fun hHeld => ?_)
            clear hK K
            try simp only [Act.put, List.setIfInBounds_toArray, List.set_cons_zero, List.set_cons_succ]
            refine HDown.out _ _ _ _ ?_
            have hk := K_42.out Z a42 HTZ.out HBZ.out HL42.out
            rw [HA0.out, HL0.out] at hk
            simp only [Act.put, List.setIfInBounds_toArray, List.set_cons_zero, List.set_cons_succ] at hk
            exact hk
      have K := Lib.hid k0
      clear k0
      exact K.out X HTX.out HBX.out
  · rw [decide_eq_false (fun h => hsm (HI.out.1 h))] at hS
    have HS := Lib.hid hS
    clear hS hsm
    go_wp2_with fail
    refine HS.out.mono ?_
    rintro e x2 ⟨rfl, rfl⟩
    go_wp2_with fail
    refine (awake_any C _ (HTab.out.below (HT1.out.alloc (.cells #[.int .u8 (z0.kind.toNat : Int), .slice z0.body.adr z0.body.bs.length z0.body.cap, .int .u8 (z1.kind.toNat : Int), .slice z1.body.adr z1.body.bs.length z1.body.cap] 40)).bel)).mono ?_
    rintro e x3 ⟨rfl, b3⟩
    have HB := Lib.hid ((HT1.out.alloc (.cells #[.int .u8 (z0.kind.toNat : Int), .slice z0.body.adr z0.body.bs.length z0.body.cap, .int .u8 (z1.kind.toNat : Int), .slice z1.body.adr z1.body.bs.length z1.body.cap] 40)).below b3).bel
    clear b3
    go_wp2_with fail
    go_ret
    exact ⟨rfl, HB.out⟩

set_option maxRecDepth 100000 in
theorem lifted (os : Os) (started : os.Started) (H : Type) (enc : TypeId × Value → H) :
    ReturnsInHanded {} Tryd.checked os 6 .any (fun w args => (Rows.blockApartSpec.pre enc Tryd.prog Tryd.f6 [] false w args ∧ laidMetH Tryd.prog Rows.blockApartRow.laid w) ∧ sizedMet enc Tryd.prog Tryd.f6 (OpenSpec.ofChange Rows.blockApartSpec) false w args) (Rows.blockApartSpec.post enc Tryd.prog Tryd.f6 false true false false) := by
  refine returnsInHanded_of_change_and (C := Tryd.checked) (X := fun w _ => laidMetH Tryd.prog Rows.blockApartRow.laid w) (fun _ _ _ hh h => h.of_heap hh) own started (by kernel_rfl) Tryd.func6
    (ChangeSpec.witness_shaped (enc := enc) (C := Tryd.checked) (os := os) (X := fun w _ => laidMetH Tryd.prog Rows.blockApartRow.laid w) false (World.laidAll Tryd.prog os Rows.blockApartRow.laid) #[.agg #[.int .u8 0, .slice none 0 0], .agg #[.int .u8 0, .slice none 0 0]] 8 (World.laidAll_os _ _ _)
      (World.shaped_of_ZipB (by kernel_rfl) (by kernel_rfl)) (by kernel_rfl) (by kernel_rfl) (by kernel_rfl)
      (by rw [MakeChecks.laidMetH_plain _ _ _ (by kernel_rfl)]; exact laidMet_laidAll _ (by kernel_rfl) (by kernel_rfl))) ?_
  intro W base args ds gs before hval0 hW _ _ hL _
  have hval : ∀ (j : Nat) t v, Tryd.f6.params[j]? = some t → args[j]? = some v → Value.okWide Tryd.prog W .any base t v := hval0
  have hW' := hW
  obtain ⟨p, q, hA0, hV, rfl, hfz, hnd⟩ := hW
  have hA : DataW.TrodAll enc Tryd.prog W 0 (fun _ => true) true Tryd.f6.params.toList args.toList ds p := hA0
  rw [Tryd.params6] at hA hval
  obtain ⟨v0, vs0, d0, ds0, p0, q0, hargs, rfl, rfl, h0, r0⟩ := trodAll_cons hA
  obtain ⟨v1, vs1, d1, ds1, p1, q1, rfl, rfl, rfl, h1, r1⟩ := trodAll_cons r0
  obtain ⟨rfl, rfl, rfl⟩ := trodAll_nil r1
  obtain rfl : args = #[v0, v1] := by cases args; simp_all
  obtain ⟨rfl, rfl⟩ := trodVars_none hV
  have tk0 := h0
  have lt0 : ∀ x ∈ p0, x.block < W.heap.size := by obtain ⟨m, hm⟩ := tk0; exact DataW.trod_lt m _ _ _ hm
  obtain ⟨z0, rfl, w0⟩ := open_blkV (hval 0 40 v0 rfl rfl) h0
  have tk1 := h1
  have lt1 : ∀ x ∈ p1, x.block < W.heap.size := by obtain ⟨m, hm⟩ := tk1; exact DataW.trod_lt m _ _ _ hm
  obtain ⟨z1, rfl, w1⟩ := open_blkV (hval 1 40 v1 rfl rfl) h1
  clear hA0 hval0
  rw [MakeChecks.laidMetH_plain _ _ _ (by kernel_rfl)] at hL
  have hT : Tabs W := tabs_of_laid hL
  refine (walk z0 z1  W w0 w1 hT).mono fun e W' ⟨he, bel⟩ => ?_
  subst he
  exact ⟨_, rfl, _, _, _, [], _, [], hW', trodAll_mk1 (shut_bool Tryd.underlying4 _), (trodAll_cons_mk (Below.trod laidOut (by kernel_rfl) (of_decide_eq_true (by kernel_rfl)) tk0 bel lt0) (trodAll_cons_mk (Below.trod laidOut (by kernel_rfl) (of_decide_eq_true (by kernel_rfl)) tk1 bel lt1) trodAll_mk0)), rfl, bel.frame _, fun h => by cases h⟩

theorem over : Rows.blockApartRow.holds Tryd.pinned (OpenSpec.ofChange Rows.blockApartSpec) :=
  OpenClaim.holds_of_wide 6 Tryd.f6 rfl rfl rfl rfl rfl rfl rfl ⟨rfl, rfl, rfl, rfl, rfl⟩ rfl rfl rfl rfl rfl (by kernel_rfl) Tryd.func6 (by kernel_rfl)
    (of_decide_eq_true (by kernel_rfl)) (by unfold Func.isWrapper; first | (rw [if_pos (by decide +kernel)]; kernel_rfl) | (rw [if_neg (by decide +kernel)]; exact ⟨rfl, rfl⟩))
    (fun os started H enc _ => lifted os started H enc)
theorem proved : Rows.BlockApartCardSaid :=
  Claim7.holds_tied_plain_at .later [] [.data] true _ false
    over (fun _ h => by cases h) (by kernel_rfl) (fun _ h => by cases h) blockApart_row_tie rfl ⟨rfl, rfl⟩ (by kernel_rfl) rfl
    (fun f fn hf hfn => by
      obtain rfl : f = 6 := Option.some.inj ((show Tryd.prog.funcNamed "cobweb/cobweblaw08.BlockApart" = some 6 by kernel_rfl).symm.trans hf) |>.symm
      obtain rfl : fn = Tryd.f6 := (Option.some.inj (Tryd.func6.symm.trans hfn)).symm
      exact ⟨by kernel_rfl, fun j t ht => by
        rw [Tryd.params6] at ht
        have hm : t ∈ [40, 40] := by simpa using Array.mem_of_getElem? ht
        have hall : ([40, 40].all fun u => !Tryd.prog.wantsStandIn u) = true := by kernel_rfl
        exact (show Tryd.prog.wantsStandIn t = false by simpa using List.all_eq_true.1 hall t hm)⟩)
    (by kernel_rfl)
end Go.Proofs.YtpmmbbkomikceaaDoor.blockApart
