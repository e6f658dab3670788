/- The landed package block: its calls. -/
import Derived.Test.YtpmmbbkomikceaaDoorBlSpec
import Derived.Deep.CutBlock
set_option linter.unusedVariables false
namespace Go.Proofs.YtpmmbbkomikceaaDoor
open Go Go.RowKit

theorem regC_app (l : List UInt8) (b : UInt8) : regC (l ++ [b]) = byteC (regC l) b.toNat := by
  unfold regC
  rw [List.foldl_append]
  rfl
theorem catS_mem {zs : List BsZ} {z : BsZ} (h : z ∈ zs) : z.bs.length ≤ (catS zs).length := by
  obtain ⟨a, b, rfl⟩ := List.append_of_mem h
  unfold catS
  rw [List.flatMap_append, List.flatMap_cons, List.length_append, List.length_append]
  omega
set_option maxHeartbeats 8000000 in
set_option maxRecDepth 100000 in
theorem codeSum (A : Option Addr) (c : Nat) (zs : List BsZ) (w : World) (hr : RdS w A zs) (hc : zs.length ≤ c) (hl : zs.length ≤ 1000000) (hn : (catS zs).length ≤ 1000000) (hT : ShT w) :
    Calls Tryd.prog 9 #[.slice A zs.length c] w fun e w' => e = .returned (.int .u32 (sumC (catS zs) : Nat)) ∧ w = w' := by
  have HR := Lib.hid hr
  have HT := Lib.hid hT
  clear hr hT
  go_enter Tryd.func9, Tryd.ntmps9
  go_wp2_with fail
  go_loopw [3, 10] (fun r i wr => ∃ k : Nat, k ≤ zs.length ∧ r = .int .u32 (regC (catS (zs.take k)) : Nat) ∧ i = .int .i64 (k : Nat) ∧ w = wr) (fun _ i _ => zs.length - (intOf i).toNat)
  case atStart => exact ⟨0, Nat.zero_le _, rfl, rfl, rfl⟩
  case round =>
    obtain ⟨k, hk, rfl, rfl, rfl⟩ := hrel
    by_cases hlt : k < zs.length
    · obtain ⟨ad, rfl, hblk, h0⟩ := layS_at HR.out.1 hlt
      have hzok := HR.out.2 _ (mem_getDS hlt)
      have hzl := catS_mem (mem_getDS hlt)
      have hsu := catS_succ zs k hlt
      obtain ⟨z, hz⟩ : ∃ z, zs.getD k default = z := ⟨_, rfl⟩
      rw [hz] at h0 hzok hsu hzl
      obtain ⟨za, zc, zb⟩ := z
      unfold BsZ.val at h0
      dsimp only at h0 hzok hsu hzl
      have hki : (k : Int) < (zs.length : Int) := by omega
      obtain ⟨al, hal⟩ : ∃ al, catS (zs.take k) = al := ⟨_, rfl⟩
      rw [hal] at hsu ⊢
      have hzb : zb.length ≤ 1000000 := by omega
      have HZ := Lib.hid hzok.2
      have HSu := Lib.hid hsu
      clear hzok hsu hz hal hzl
      go_wp2_with fail
      go_loopw [3, 16] (fun r j wx => ∃ m : Nat, m ≤ zb.length ∧ r = .int .u32 (regC (al ++ zb.take m) : Nat) ∧ j = .int .i64 (m : Nat) ∧ w = wx) (fun _ j _ => zb.length - (intOf j).toNat)
      case atStart => exact ⟨0, Nat.zero_le _, by rw [List.take_zero, List.append_nil], rfl, rfl⟩
      case round =>
        obtain ⟨m, hm, rfl, rfl, rfl⟩ := hrel
        by_cases hml : m < zb.length
        · obtain ⟨az, rfl, hbz, g0⟩ := layB_at HZ.out hml
          have hst : regC (al ++ zb.take (m + 1)) = byteC (regC (al ++ zb.take m)) (zb.getD m default).toNat := by
            rw [List.take_succ_eq_append_getElem hml, ← List.append_assoc, regC_app, List.getD_eq_getElem?_getD, List.getElem?_eq_getElem hml]
            rfl
          have hrl := regC_lt (al ++ zb.take m)
          obtain ⟨r, hrr⟩ : ∃ r, regC (al ++ zb.take m) = r := ⟨_, rfl⟩
          rw [hrr] at hst hrl ⊢
          obtain ⟨b, hb⟩ : ∃ b, zb.getD m default = b := ⟨_, rfl⟩
          rw [hb] at g0 hst
          have hb8 := UInt8.toNat_lt b
          have hmi : (m : Int) < (zb.length : Int) := by omega
          have hx := u32_xor_nat r b.toNat hrl (by omega)
          have hxl : r ^^^ b.toNat < 4294967296 := xor_lt32 hrl (by omega)
          rw [byteC_half] at hst
          obtain ⟨x, hxx⟩ : ∃ x, r ^^^ b.toNat = x := ⟨_, rfl⟩
          rw [hxx] at hx hxl hst
          obtain ⟨t1, x1, n1⟩ := half_cell HT.out hxl
          have hyl := halfC_lt hxl
          obtain ⟨y, hy⟩ : ∃ y, halfC x = y := ⟨_, rfl⟩
          rw [hy] at x1 hyl hst
          obtain ⟨t2, x2, n2⟩ := half_cell HT.out hyl
          obtain ⟨u, hu⟩ : ∃ u, stepsC 4 (x % 16) = u := ⟨_, rfl⟩
          obtain ⟨v, hv⟩ : ∃ v, stepsC 4 (y % 16) = v := ⟨_, rfl⟩
          rw [hu] at t1 x1
          rw [hv] at t2 x2
          have HSt := Lib.hid hst
          rw [show ((x / 16 : Nat) : Int) = (x : Int) / 16 from by omega] at x1
          rw [show ((y / 16 : Nat) : Int) = (y : Int) / 16 from by omega] at x2
          have hq1 : x % 16 < 16 := Nat.mod_lt _ (by decide)
          have hq2 : y % 16 < 16 := Nat.mod_lt _ (by decide)
          obtain ⟨p, hp⟩ : ∃ p, x % 16 = p := ⟨_, rfl⟩
          obtain ⟨q, hq⟩ : ∃ q, y % 16 = q := ⟨_, rfl⟩
          rw [hp] at t1 n1 hq1
          rw [hq] at t2 n2 hq2
          clear hst hrr hb hxx hy hu hv hp hq
          go_wp2_with fail
          go_roundw
          case rel => exact ⟨m + 1, by omega, by rw [HSt.out], by go_num, by first | rfl | trivial⟩
          case measure => simp [intOf]; omega
        · obtain rfl : m = zb.length := by omega
          rw [List.take_length]
          go_wp2_with fail
          go_roundw
          case rel => exact ⟨k + 1, by omega, by rw [HSu.out], by go_num, by first | rfl | trivial⟩
          case measure => simp [intOf]; omega
    · obtain rfl : k = zs.length := by omega
      rw [List.take_length]
      have hrl := regC_lt (catS zs)
      have hx : bits .xor .u32 IntKind.u32.max (regC (catS zs) : Int) = (sumC (catS zs) : Nat) := by
        have h := u32_xor_nat 4294967295 (regC (catS zs)) (by decide) hrl
        rw [Nat.xor_comm] at h
        exact h
      obtain ⟨q, hq⟩ : ∃ q, sumC (catS zs) = q := ⟨_, rfl⟩
      obtain ⟨r, hrr⟩ : ∃ r, regC (catS zs) = r := ⟨_, rfl⟩
      rw [hrr] at hrl hx ⊢
      rw [hq] at hx
      have HQ := Lib.hid hq
      clear hrr hq
      go_wp2_with fail
      go_ret
      exact ⟨by rw [HQ.out]; rfl, rfl⟩
set_option maxHeartbeats 8000000 in
set_option maxRecDepth 100000 in
theorem codeLayN (B n x : Nat) (v : Value) (M : List UInt8) (w : World) (hx : x < 4294967296) (hrow : layB.Row 5 w B v n M) (hB : B ≤ w.heap.size) (hn : n ≤ 999990) :
    Calls Tryd.prog 29 #[v, .int .u32 (x : Nat)] w fun e w' => ∃ v', e = .returned v' ∧ layB.Row 5 w' B v' (n + 4) (M ++ fourR x) ∧ Moved (fun k => v.ownBlock = some k) (fun k => v'.ownBlock = some k) w w' := by
  obtain ⟨A, c, rfl, _, _, _, _⟩ := hrow.rd
  have hl := hrow.len
  have c0 : (((UInt8.ofNat (x / 16777216)).toNat : Nat) : Int) = (x : Int) / 16777216 := by rw [four_cell _ (by omega)]; omega
  have c1 : (((UInt8.ofNat (x / 65536)).toNat : Nat) : Int) = (x : Int) / 65536 % 256 := by rw [four_cell _ (by omega)]; omega
  have c2 : (((UInt8.ofNat (x / 256)).toNat : Nat) : Int) = (x : Int) / 256 % 256 := by rw [four_cell _ (by omega)]; omega
  have c3 := four_cell x hx
  have hlit := LayG.Rd.lit (L := layB) (E := 5) w #[.int .u8 ((UInt8.ofNat (x / 16777216)).toNat : Int), .int .u8 ((UInt8.ofNat (x / 65536)).toNat : Int), .int .u8 ((UInt8.ofNat (x / 256)).toNat : Int), .int .u8 ((UInt8.ofNat x).toNat : Int)] (fourR x) rfl (by rw [fourR_len]; decide)
  rw [c0, c1, c2, c3] at hlit
  have hb := (Below.refl w.heap.size w).alloc (Nat.le_refl _) (.cells #[.int .u8 ((x : Int) / 16777216), .int .u8 ((x : Int) / 65536 % 256), .int .u8 ((x : Int) / 256 % 256), .int .u8 ((x : Int) % 256)] 5)
  have HRow := Lib.hid (hrow.below hb)
  have HLt := Lib.hid hrow.lt
  have HLit := Lib.hid hlit
  have HB := Lib.hid hb
  have HL := Lib.hid hl
  clear hrow hlit c0 c1 c2 c3 hb hl
  go_enter Tryd.func29, Tryd.ntmps29
  go_wp2_with (at_builtin; refine wpList_append_G typB rfl _ _ rfl B (.slice A n c) n M rfl HRow.out (some ⟨w.heap.size, 0, none⟩) 4 4 (fourR x) rfl (fourR_len _) HLit.out (by rw [fourR_len]; omega) (Nat.le_trans hB HB.out.size) (w.heap.size + 1) (by simp) ?_)
  intro v1 w1 r1 g1 l1
  have HR1 := Lib.hid r1
  have hm : Moved (fun k => (Value.slice A n c).ownBlock = some k) (fun k => v1.ownBlock = some k) w w1 := ⟨(Only.mono (S := NoB) (Below.only HB.out) (fun _ h => h.elim)).grown g1 (fun k hk => .inl hk), fun k hk => by
    rcases l1 k hk with h | h
    · exact .inl h
    · right; omega⟩
  have HM := Lib.hid hm
  clear r1 g1 l1 hm
  go_wp2_with fail
  go_ret
  exact ⟨_, rfl, HR1.out, HM.out⟩

set_option maxHeartbeats 8000000 in
set_option maxRecDepth 100000 in
theorem codeLay (w0 w : World) (n : Nat) (v : Value) (M : List UInt8) (z : BlZ) (hb0 : Below w0.heap.size w0 w) (hrow : layB.Row 5 w w0.heap.size v n M) (hz : z.body.ok w0) (hn : n + z.body.bs.length + 10 ≤ 999980) (hT : ShT w0) :
    Calls Tryd.prog 22 #[v, z.val] w fun e w' => ∃ v', e = .returned v' ∧ layB.Row 5 w' w0.heap.size v' (n + (z.body.bs.length + 10)) (M ++ packR z.kind z.body.bs) ∧ Below w0.heap.size w0 w' := by
  obtain ⟨A, c, rfl, _, _, _, _⟩ := hrow.rd
  obtain ⟨k, za, zc, b⟩ := z
  unfold BlZ.val BsZ.val
  dsimp only at hz hn ⊢
  obtain ⟨hzc, hzr⟩ := hz
  have HZ := Lib.hid hzr
  have HB0 := Lib.hid hb0
  have HT := Lib.hid hT
  have hbx := (Below.refl w.heap.size w).alloc (Nat.le_refl _) (.cells #[.int .u8 (k.toNat : Int), .slice za b.length zc] 40)
  have hsz1 : (w.alloc (.cells #[.int .u8 (k.toNat : Int), .slice za b.length zc] 40)).heap.size = w.heap.size + 1 := by simp
  have hbk1 : (w.alloc (.cells #[.int .u8 (k.toNat : Int), .slice za b.length zc] 40)).heap[w.heap.size]? = some (.cells #[.int .u8 (k.toNat : Int), .slice za b.length zc] 40 (0, 0)) := heap_alloc_new w _
  have hr1 := hrow.below hbx
  have hnv : (Value.slice A n c).ownBlock ≠ some w.heap.size := fun e => by have := (hrow.lt _ e).2; omega
  have HNV := Lib.hid hnv
  have HB1 := Lib.hid (hb0.trans (hbx.mono hb0.size))
  obtain ⟨s0, s1⟩ := blkL hbk1
  go_enter Tryd.func22, Tryd.ntmps22
  have hlit := LayG.Rd.lit (L := layB) (E := 5) (w.alloc (.cells #[.int .u8 (k.toNat : Int), .slice za b.length zc] 40)) #[.int .u8 203, .int .u8 (k.toNat : Int)] [203, k] rfl (by simp [maxLen])
  have hb2 := (Below.refl (w.alloc (.cells #[.int .u8 (k.toNat : Int), .slice za b.length zc] 40)).heap.size (w.alloc (.cells #[.int .u8 (k.toNat : Int), .slice za b.length zc] 40))).alloc (Nat.le_refl _) (.cells #[.int .u8 203, .int .u8 (k.toNat : Int)] 5)
  rw [hsz1] at hlit
  have HR2 := Lib.hid (hr1.below hb2)
  have HLit := Lib.hid hlit
  have HB2 := Lib.hid (HB1.out.trans (hb2.mono (by rw [hsz1]; exact Nat.le_trans hb0.size (Nat.le_succ _))))
  have hbk2 := (hb2.block w.heap.size (by rw [hsz1]; omega)).trans hbk1
  have HBk2 := Lib.hid hbk2
  clear hbx hbk1 hr1 hnv hlit hb2 hbk2 hrow hzr hb0 hT
  go_wp2_with (at_builtin; refine wpList_append_G typB rfl _ _ rfl w0.heap.size (.slice A n c) n M rfl HR2.out (some ⟨w.heap.size + 1, 0, none⟩) 2 2 [203, k] rfl rfl HLit.out (by show n + 2 ≤ 1000000; omega) HB2.out.size (w.heap.size + 2) (by simp) ?_)
  intro v3 w3 r3 g3 l3
  have hbk3 := (g3.block w.heap.size (by have := (Array.getElem?_eq_some_iff.1 HBk2.out).1; exact this) (fun e => HNV.out e.symm)).trans HBk2.out
  have hnv3 : v3.ownBlock ≠ some w.heap.size := fun e => by
    rcases l3 _ e with h | h
    · exact HNV.out h
    · omega
  have hb3 := HB2.out.grown g3 HB2.out.size (fun g hg => (HR2.out.lt g hg).1)
  obtain ⟨u0, u1⟩ := blkL hbk3
  obtain ⟨A3, c3, rfl, _, _, _, _⟩ := r3.rd
  have hcv : (IntKind.u32.wrap (b.length : Int)) = (b.length : Int) := by
    simp [IntKind.wrap, IntKind.bits, IntKind.signed]
    omega
  have HC4 := Lib.hid (codeLayN w0.heap.size (n + 2) b.length (.slice A3 (n + 2) c3) (M ++ [203, k]) w3 (by omega) r3 hb3.size (by omega))
  have HBk3 := Lib.hid hbk3
  have HNV3 := Lib.hid hnv3
  have HB3 := Lib.hid hb3
  have HR3 := Lib.hid r3
  clear r3 g3 l3 hbk3 hnv3 hb3 s0 s1 HR2 HLit HBk2 HNV
  go_wp2_with fail
  refine HC4.out.mono ?_
  rintro e w4 ⟨v4, rfl, r4, m4⟩
  have hbk4 := (m4.1.block w.heap.size (by have := (Array.getElem?_eq_some_iff.1 HBk3.out).1; exact this) HNV3.out).trans HBk3.out
  have hb4 := m4.below HB3.out (fun q hq => (HR3.out.lt q hq).1)
  obtain ⟨t0, t1⟩ := blkL hbk4
  obtain ⟨A4, c4, rfl, _, _, _, _⟩ := r4.rd
  have HR4 := Lib.hid r4
  have HB4 := Lib.hid hb4
  clear r4 m4 hbk4 hb4 HC4 HBk3 HNV3 HR3 u0 u1
  go_wp2_with (at_builtin; refine wpList_append_G typB rfl _ _ rfl w0.heap.size (.slice A4 (n + 2 + 4) c4) (n + 2 + 4) (M ++ [203, k] ++ fourR b.length) rfl HR4.out za b.length zc b rfl rfl (HZ.out.below (Nat.le_refl _) HB4.out) (by omega) HB4.out.size w4.heap.size rfl ?_)
  intro v5 w5 r5 g5 l5
  have hb5 := HB4.out.grown g5 HB4.out.size (fun g hg => (HR4.out.lt g hg).1)
  have hhl : (headR k b).length = b.length + 6 := headR_len k b
  have hml : M.length = n := by have := r5.len; simp [fourR_len] at this; omega
  have hr5 : layB.Row 5 w5 w0.heap.size v5 (n + (b.length + 6)) (M ++ headR k b) := by
    have h := r5
    rw [show M ++ 203 :: k :: (fourR b.length ++ b) = M ++ headR k b from rfl, show n + 2 + 4 + b.length = n + (b.length + 6) from by omega] at h
    exact h
  obtain ⟨A5, c5, rfl, hc5, hrd5, _, _⟩ := hr5.rd
  rw [List.length_append, hhl, hml] at hc5
  have hsl := fun W => slice_fromB W A5 (n + (b.length + 6)) c5 n (by omega)
  have hrdh := rd_from hrd5 (c := c5) (K := n) (by rw [List.length_append, hhl, hml]; omega) (by rw [List.length_append, hml]; omega)
  rw [← hml, List.drop_left, hml] at hrdh
  rw [show n + (b.length + 6) - n = b.length + 6 from by omega] at hsl
  obtain ⟨AH, hAH⟩ : ∃ X, fromA A5 c5 n = X := ⟨_, rfl⟩
  rw [hAH] at hsl hrdh
  have HR5 := Lib.hid hr5
  have HB5 := Lib.hid hb5
  have hb6 := (Below.refl w5.heap.size w5).alloc (Nat.le_refl _) (.cells #[.slice AH (b.length + 6) (c5 - n)] 24)
  have hrs : RdS (w5.alloc (.cells #[.slice AH (b.length + 6) (c5 - n)] 24)) (some ⟨w5.heap.size, 0, none⟩) [⟨AH, c5 - n, headR k b⟩] := by
    refine ⟨LayG.Rd.lit (L := layS) (E := 24) w5 _ [⟨AH, c5 - n, headR k b⟩] (by rw [← hhl]; rfl) (by simp [maxLen]), fun y hy => ?_⟩
    rw [List.mem_singleton.1 hy]
    exact ⟨by show (headR k b).length ≤ c5 - n; rw [hhl]; omega, hrdh.below (Nat.le_refl _) hb6⟩
  have hb6' := hb5.trans (hb6.mono hb5.size)
  have hS := codeSum (some ⟨w5.heap.size, 0, none⟩) 1 [⟨AH, c5 - n, headR k b⟩] _ hrs (Nat.le_refl _) (by show 1 ≤ 1000000; decide) (by show ([⟨AH, c5 - n, headR k b⟩].flatMap BsZ.bs).length ≤ 1000000; simp [hhl]; omega) (HT.out.below hb6')
  rw [show catS [⟨AH, c5 - n, headR k b⟩] = headR k b from by simp [catS]] at hS
  have HS := Lib.hid hS
  have HR6 := Lib.hid (hr5.below hb6)
  have HB6 := Lib.hid hb6'
  have HL6 := Lib.hid (codeLayN w0.heap.size (n + (b.length + 6)) (sumC (headR k b)) (.slice A5 (n + (b.length + 6)) c5) (M ++ headR k b) _ (sumC_lt _) (hr5.below hb6) hb6'.size (by omega))
  clear hS hrs hb6 hb6' hrdh hr5 hrd5 r5 g5 l5 hb5 hhl t0 t1 HR4 HB4 hcv
  go_wp2_with fail
  refine HS.out.mono ?_
  rintro e w6 ⟨rfl, rfl⟩
  go_wp2_with fail
  refine HL6.out.mono ?_
  rintro e w7 ⟨v7, rfl, r7, m7⟩
  have hb7 := m7.below HB6.out (fun q hq => (HR6.out.lt q hq).1)
  have hr7 : layB.Row 5 w7 w0.heap.size v7 (n + (b.length + 10)) (M ++ packR k b) := by
    have h := r7
    rw [List.append_assoc, show n + (b.length + 6) + 4 = n + (b.length + 10) from by omega] at h
    exact h
  have HR7 := Lib.hid hr7
  clear r7 m7 hr7
  go_wp2_with fail
  go_ret
  exact ⟨_, rfl, HR7.out, hb7⟩
end Go.Proofs.YtpmmbbkomikceaaDoor
