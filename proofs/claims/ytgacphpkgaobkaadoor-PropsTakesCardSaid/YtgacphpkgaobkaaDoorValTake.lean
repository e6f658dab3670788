/- The document's own answers for values: what bytes begin with. -/
import Derived.Test.YtgacphpkgaobkaaDoorValBytes
import Derived.Laws.IdiomStrings
set_option linter.unusedVariables false
namespace Go.Proofs.YtgacphpkgaobkaaDoor
open Go Go.RowKit

def noV (e : Int) : Value := .tuple #[valV 0 0 ⟨#[]⟩, .int .i64 0, .int .i64 e]
def tkV : Tk → Value
  | .ok s n => .tuple #[valV 2 0 ⟨s.toArray⟩, .int .i64 (n : Int), .int .i64 0]
  | .no e => noV e
def takeV : List UInt8 → Value
  | [] => noV 20
  | c :: r =>
    if c = 1 then (if r.length < 8 then noV 20 else .tuple #[valV 1 ((valN 0 (r.take 8) : Int) - 9223372036854775808) ⟨#[]⟩, .int .i64 9, .int .i64 0])
    else if c = 2 then tkV (takeS [] 1 r) else noV 22
/-- What lies behind a slice of bytes. -/
def RdB (w : World) (A : Option Addr) (bs : List UInt8) : Prop := ∀ k, k < bs.length → ∃ ad, A = some ad ∧ ad.block < w.heap.size ∧ w.cell? (ad.add k) = some (u8v (bs.getD k 0))
theorem RdB.below {w w' : World} {B : Nat} {A : Option Addr} {bs : List UInt8} (h : RdB w A bs) (hB : w.heap.size ≤ B) (hb : Below B w w') : RdB w' A bs := by
  intro k hk
  obtain ⟨ad, e, hlt, hc⟩ := h k hk
  refine ⟨ad, e, Nat.lt_of_lt_of_le hlt hb.size, ?_⟩
  have hbl : (ad.add k).block = ad.block := by unfold Addr.add; split <;> rfl
  rw [World.cell?_of_block (hb.block _ (by omega))]
  exact hc
theorem RdB.at1 {w : World} {A : Option Addr} {bs : List UInt8} (h : RdB w A bs) {k : Nat} (hk : k < bs.length) : ∃ ad, A = some ad ∧ w.cell? (ad.add k) = some (u8v (bs.getD k 0)) := by
  obtain ⟨ad, e, _, hc⟩ := h k hk
  exact ⟨ad, e, hc⟩
theorem valN_snoc : ∀ (l : List UInt8) (u : Nat) (b : UInt8), valN u (l ++ [b]) = valN u l * 256 + b.toNat
  | [], u, b => rfl
  | c :: l, u, b => valN_snoc l _ b

theorem conv_one {y : UInt8} (w : World) (z : Nat) (hz : y.toNat = z) :
    (convert 43 9 (.slice (some ⟨w.heap.size, 0, none⟩) 1 1)).run Tryd.prog (w.alloc (.cells #[.int .u8 (z : Int)] 5)) = .ok (.string ⟨#[y]⟩) (w.alloc (.cells #[.int .u8 (z : Int)] 5)) := by
  subst hz
  refine run_convert_bytes_back (P := Tryd.prog) _ 43 9 5 _ 1 [y] Tryd.underlying43 Tryd.underlying5 Tryd.underlying9 ?_
  intro j hj
  have h0 : j = 0 := by simpa using hj
  subst h0
  simp [Addr.add, World.cell?_alloc_mark]
/-- Where the answer lies: a value of nothing. -/
structure Res (W : World) (N : Nat) : Prop where
  c0 : W.cell? { block := N, off := 0 } = some (.int .i64 0)
  c1 : W.cell? { block := N, off := 1 } = some (.int .i64 0)
  c2 : W.cell? { block := N, off := 2 } = some (.string ⟨#[]⟩)
  f0 : W.frozen? { block := N, off := 0 } = false
  f1 : W.frozen? { block := N, off := 1 } = false
  f2 : W.frozen? { block := N, off := 2 } = false
theorem Res.new (w : World) : Res (w.alloc (.cells #[.int .i64 0, .int .i64 0, .string ⟨#[]⟩] 36)) w.heap.size := by
  constructor
  · rw [World.cell?_alloc_mark]; rfl
  · rw [World.cell?_alloc_mark]; rfl
  · rw [World.cell?_alloc_mark]; rfl
  all_goals (unfold World.frozen?; rw [heap_alloc_new]; rfl)
theorem Res.block {W W' : World} {N : Nat} (h : Res W N) (e : W'.heap[N]? = W.heap[N]?) : Res W' N :=
  ⟨(World.cell?_of_block e).trans h.c0, (World.cell?_of_block e).trans h.c1, (World.cell?_of_block e).trans h.c2, (World.frozen?_of_block e).trans h.f0, (World.frozen?_of_block e).trans h.f1, (World.frozen?_of_block e).trans h.f2⟩
theorem Res.set {W : World} {N : Nat} (h : Res W N) (x y z : Value) :
    (W.setCell { block := N, off := 0 } x).cell? { block := N, off := 0 } = some x ∧
    ((W.setCell { block := N, off := 0 } x).setCell { block := N, off := 1 } y).cell? { block := N, off := 1 } = some y ∧
    (((W.setCell { block := N, off := 0 } x).setCell { block := N, off := 1 } y).setCell { block := N, off := 2 } z).cell? { block := N, off := 2 } = some z := by
  refine ⟨World.cell?_setCell_same _ _ _ h.c0, World.cell?_setCell_same _ _ _ (u := .int .i64 0) ?_, World.cell?_setCell_same _ _ _ (u := .string ⟨#[]⟩) ?_⟩
  · rw [World.cell?_setCell_other _ _ _ _ (by simp)]
    exact h.c1
  · rw [World.cell?_setCell_other _ _ _ _ (by simp), World.cell?_setCell_other _ _ _ _ (by simp)]
    exact h.c2
theorem Res.alloc {W : World} {N : Nat} (h : Res W N) (hN : N < W.heap.size) (o : Obj) : Res (W.alloc o) N := h.block (Lib.alloc_old W o N hN)
theorem cell_alloc {W : World} {a : Addr} {v : Value} (h : W.cell? a = some v) (hb : a.block < W.heap.size) (o : Obj) : (W.alloc o).cell? a = some v := (World.cell?_of_block (Lib.alloc_old W o a.block hb)).trans h
theorem app_one (acc : List UInt8) (y : UInt8) : (⟨acc.toArray⟩ : ByteArray) ++ ⟨#[y]⟩ = ⟨(acc ++ [y]).toArray⟩ := by
  apply ByteArray.ext
  rw [ByteArray.data_append]
  simp

set_option maxHeartbeats 1000000 in
set_option maxRecDepth 100000 in
theorem refTake_any (A : Option Addr) (c : Nat) (bs : List UInt8) (w : World) (h : RdB w A bs) (hc : bs.length ≤ c) (hlen : bs.length ≤ 1000000) :
    Calls Tryd.prog 46 #[.slice A bs.length c] w fun e w' => e = .returned (takeV bs) ∧ Below w.heap.size w w' := by
  have HRd := Lib.hid h
  clear h
  cases bs with
  | nil =>
    go_enter Tryd.func46, Tryd.ntmps46
    go_wp2_with fail
    exact bodyPost_ret (v := noV 20) (by simp [results, Tryd.results46, go_sem, noV, valV]) rfl ⟨rfl, (Below.refl _ _).alloc (Nat.le_refl _) _⟩
  | cons b r =>
    have hb0 : Below w.heap.size w (w.alloc (.cells #[.int .i64 0, .int .i64 0, .string ⟨#[]⟩] 36)) := (Below.refl _ _).alloc (Nat.le_refl _) _
    have HRd1 := Lib.hid (HRd.out.below (Nat.le_refl _) hb0)
    obtain ⟨ad, rfl, hcell⟩ := HRd1.out.at1 (k := 0) (by simp)
    have hcell0 : (w.alloc (.cells #[.int .i64 0, .int .i64 0, .string ⟨#[]⟩] 36)).cell? ad = some (.int .u8 (b.toNat : Int)) := by simpa [Addr.add, u8v] using hcell
    clear hcell
    have hlb : (b :: r).length = r.length + 1 := rfl
    rw [hlb] at hc hlen ⊢
    clear hlb
    have hx0 := b.toNat_lt
    by_cases c1 : b = 1
    · subst c1
      by_cases c2 : r.length < 8
      · have HT : Hid (takeV (1 :: r) = noV 20) := Lib.hid (by simp [takeV, c2])
        go_enter Tryd.func46, Tryd.ntmps46
        go_wp2_with fail
        exact bodyPost_ret (v := noV 20) (by simp [results, Tryd.results46, go_sem, noV, valV]) rfl ⟨by rw [HT.out], hb0⟩
      · have HT : Hid (takeV (1 :: r) = .tuple #[valV 1 ((valN 0 (r.take 8) : Int) - 9223372036854775808) ⟨#[]⟩, .int .i64 9, .int .i64 0]) := Lib.hid (by simp [takeV, c2])
        go_enter Tryd.func46, Tryd.ntmps46
        go_wp2_with fail
        go_loop [5, 6] (fun u i => ∃ (j U : Nat), u = .int .u64 (U : Int) ∧ i = .int .i64 ((j + 1 : Nat) : Int) ∧ j ≤ 8 ∧ U = valN 0 (r.take j) ∧ U < 256 ^ j) (fun _ i => 9 - (intOf i).toNat)
        case atStart => exact ⟨0, 0, rfl, rfl, by omega, rfl, by decide⟩
        case round =>
          obtain ⟨j, U, rfl, rfl, hj, hU, hUb⟩ := hrel
          have HU := Lib.hid hU
          have HUb := Lib.hid hUb
          clear hU hUb
          by_cases hlt : j < 8
          · obtain ⟨ad', he, hcj⟩ := HRd1.out.at1 (k := j + 1) (by simp; omega)
            obtain rfl : ad = ad' := by injection he
            clear he
            have hg : (1 :: r).getD (j + 1) 0 = r.getD j 0 := by simp
            rw [hg] at hcj
            obtain ⟨y, hy⟩ : ∃ y, r.getD j 0 = y := ⟨_, rfl⟩
            rw [hy] at hcj
            unfold u8v at hcj
            have htk : r.take (j + 1) = r.take j ++ [y] := by
              rw [List.take_succ_eq_append_getElem (show j < r.length by omega), ← hy]
              simp [List.getD_eq_getElem?_getD, List.getElem?_eq_getElem (show j < r.length by omega)]
            have hyb := y.toNat_lt
            obtain ⟨z, hz⟩ : ∃ z, y.toNat = z := ⟨_, rfl⟩
            rw [hz] at hcj hyb
            have hcj2 : (w.alloc (.cells #[.int .i64 0, .int .i64 0, .string ⟨#[]⟩] 36)).cell? { block := ad.block, off := ad.off + (j + 1) } = some (.int .u8 (z : Int)) := by simpa [Addr.add] using hcj
            clear hcj
            have hUn : U * 256 + z = valN 0 (r.take (j + 1)) := by rw [htk, valN_snoc, ← HU.out, hz]
            have hUs : U ≤ 72057594037927935 := by
              have h1 : 256 ^ j ≤ 256 ^ 7 := Nat.pow_le_pow_right (by decide) (by omega)
              have h2 : (256 : Nat) ^ 7 = 72057594037927936 := by decide
              have := HUb.out
              omega
            have hUb2 : U * 256 + z < 256 ^ (j + 1) := by
              have := HUb.out
              rw [Nat.pow_succ]
              omega
            have HUn := Lib.hid hUn
            have HUb2 := Lib.hid hUb2
            clear hUn hUb2 htk hg hy hz HUb
            go_wp2_with fail
            go_round
            case rel => exact ⟨j + 1, U * 256 + z, by go_num, by go_num, by omega, HUn.out, HUb2.out⟩
            case measure => simp [intOf]; omega
          · obtain rfl : j = 8 := by omega
            have hU8 : U ≤ 18446744073709551615 := by
              have h2 : (256 : Nat) ^ 8 = 18446744073709551616 := by decide
              have := HUb.out
              omega
            have hw : IntKind.i64.wrap (IntKind.u64.wrap ((U : Int) - 9223372036854775808)) = (U : Int) - 9223372036854775808 := by
              simp [IntKind.wrap, IntKind.bits, IntKind.signed]
              omega
            go_wp2_with fail
            exact bodyPost_ret (v := .tuple #[valV 1 ((U : Int) - 9223372036854775808) ⟨#[]⟩, .int .i64 9, .int .i64 0]) (by simp [results, Tryd.results46, go_sem, valV]) rfl ⟨by rw [HT.out, ← HU.out], (Below.refl _ _).alloc (Nat.le_refl _) _⟩
    · by_cases c2 : b = 2
      · subst c2
        have HT : Hid (takeV (2 :: r) = tkV (takeS [] 1 r)) := Lib.hid (by simp [takeV])
        have hsz0 : (w.alloc (.cells #[.int .i64 0, .int .i64 0, .string ⟨#[]⟩] 36)).heap.size = w.heap.size + 1 := by simp
        have HRes := Lib.hid (Res.new w)
        have hlen0 : ((r.length : Int) + 1 == 0) = false := by simp; omega
        go_enter Tryd.func46, Tryd.ntmps46
        go_wp2_with fail
        go_loopw [7, 8] (fun s i wr => ∃ (acc : List UInt8) (j : Nat), s = .string ⟨acc.toArray⟩ ∧ i = .int .i64 ((j + 1 : Nat) : Int) ∧ j ≤ r.length ∧ acc.length ≤ 200 ∧ takeS acc (j + 1) (r.drop j) = takeS [] 1 r ∧ Below (w.heap.size + 1) (w.alloc (.cells #[.int .i64 0, .int .i64 0, .string ⟨#[]⟩] 36)) wr) (fun _ i _ => r.length + 1 - (intOf i).toNat)
        case atStart => exact ⟨[], 0, rfl, rfl, by omega, by simp, by simp, Below.refl _ _⟩
        case round =>
          obtain ⟨acc, j, rfl, rfl, hj, hal, hacc, hbw⟩ := hrel
          have hbs : w.heap.size + 1 ≤ wr.heap.size := by have := hbw.size; rw [hsz0] at this; exact this
          have hres := HRes.out.block (hbw.block _ (by omega))
          have HResW := Lib.hid hres
          clear hres
          have HA := Lib.hid hacc
          clear hacc
          have hacz : (⟨acc.toArray⟩ : ByteArray).size = acc.length := rfl
          obtain ⟨S, hS⟩ : ∃ S : ByteArray, (⟨acc.toArray⟩ : ByteArray) = S := ⟨_, rfl⟩
          rw [hS] at hacz ⊢
          have hSz : S.size ≤ 200 := by omega
          have HS := Lib.hid hS
          have HAz := Lib.hid hacz
          clear hS hacz
          by_cases hlt : j < r.length
          · have hrdw := HRd1.out.below (by rw [hsz0]; exact Nat.le_refl _) hbw
            obtain ⟨ad', he, hblk, hcj⟩ := hrdw (j + 1) (by simp; omega)
            obtain rfl : ad = ad' := by injection he
            clear he
            have hg : (2 :: r).getD (j + 1) 0 = r.getD j 0 := by simp
            rw [hg] at hcj
            obtain ⟨y, hy⟩ : ∃ y, r.getD j 0 = y := ⟨_, rfl⟩
            rw [hy] at hcj
            unfold u8v at hcj
            have hdr : r.drop j = y :: r.drop (j + 1) := by
              rw [List.drop_eq_getElem_cons hlt, ← hy]
              simp [List.getD_eq_getElem?_getD, List.getElem?_eq_getElem hlt]
            have hyb := y.toNat_lt
            have HD : Hid (takeS acc (j + 1) (y :: r.drop (j + 1)) = takeS [] 1 r) := Lib.hid (by rw [← hdr]; exact HA.out)
            clear hdr hy hg HA
            obtain ⟨z, hz⟩ : ∃ z, y.toNat = z := ⟨_, rfl⟩
            have hcv := conv_one (y := y) wr z hz
            obtain ⟨Y, hY⟩ : ∃ Y : ByteArray, (⟨#[y]⟩ : ByteArray) = Y := ⟨_, rfl⟩
            have hYz : Y.size ≤ 1 := by rw [← hY]; exact Nat.le_refl _
            rw [hY] at hcv
            have hnew : S ++ Y = ⟨(acc ++ [y]).toArray⟩ := by rw [← HS.out, ← hY]; exact app_one acc y
            have HNew := Lib.hid hnew
            clear hY hnew
            rw [hz] at hcj hyb
            have hcj2 : wr.cell? { block := ad.block, off := ad.off + (j + 1) } = some (.int .u8 (z : Int)) := by simpa [Addr.add] using hcj
            have hcj3 : (wr.alloc (.cells #[.int .u8 (z : Int)] 5)).cell? { block := ad.block, off := ad.off + (j + 1) } = some (.int .u8 (z : Int)) := cell_alloc hcj2 hblk _
            have HResA : Hid (Res (wr.alloc (.cells #[.int .u8 (z : Int)] 5)) w.heap.size) := Lib.hid (HResW.out.alloc (by omega) _)
            clear hcj
            have hq : ¬ 9223372036854775807 < S.size + Y.size := by omega
            by_cases y0 : y = 0
            · have hz0 : z = 0 := by rw [← hz, y0]; rfl
              have e0 : ((z : Int) == 0) = true := by simp [hz0]
              clear hz hz0
              by_cases hend : j + 1 < r.length
              · obtain ⟨ad', he, _, hcd⟩ := hrdw (j + 1 + 1) (by simp; omega)
                obtain rfl : ad = ad' := by injection he
                clear he
                have hg : (2 :: r).getD (j + 1 + 1) 0 = r.getD (j + 1) 0 := by simp
                rw [hg] at hcd
                obtain ⟨d, hd⟩ : ∃ d, r.getD (j + 1) 0 = d := ⟨_, rfl⟩
                rw [hd] at hcd
                unfold u8v at hcd
                have hdr : r.drop (j + 1) = d :: r.drop (j + 2) := by
                  rw [List.drop_eq_getElem_cons hend, ← hd]
                  simp [List.getD_eq_getElem?_getD, List.getElem?_eq_getElem hend]
                have hdb := d.toNat_lt
                have HE : Hid (takeS acc (j + 1) (0 :: d :: r.drop (j + 2)) = takeS [] 1 r) := Lib.hid (by rw [← hdr, ← y0]; exact HD.out)
                clear hdr hd hg HD
                obtain ⟨x, hx⟩ : ∃ x, d.toNat = x := ⟨_, rfl⟩
                rw [hx] at hcd hdb
                have hcd2 : wr.cell? { block := ad.block, off := ad.off + (j + 1 + 1) } = some (.int .u8 (x : Int)) := by simpa [Addr.add] using hcd
                have hcd3 : (wr.alloc (.cells #[.int .u8 (z : Int)] 5)).cell? { block := ad.block, off := ad.off + (j + 1 + 1) } = some (.int .u8 (x : Int)) := cell_alloc hcd2 hblk _
                clear hcd
                by_cases d0 : d = 0
                · have hx0 : x = 0 := by rw [← hx, d0]; rfl
                  have e1 : ((x : Int) == 0) = true := by simp [hx0]
                  have hout : takeS [] 1 r = .ok acc (j + 1 + 2) := by rw [← HE.out, d0]; simp [takeS]
                  clear hx hx0 d0 HE y0
                  have HO := Lib.hid hout
                  clear hout
                  obtain ⟨r0, r1, r2, q0, q1, q2⟩ := HResA.out
                  go_wp2_with fail
                  have s0 := fun x => (Res.set HResA.out x x x).1
                  have s1 := fun x y => (Res.set HResA.out x y y).2.1
                  have s2 := fun x y z => (Res.set HResA.out x y z).2.2
                  exact bodyPost_ret (v := (.tuple #[valV 2 0 S, .int .i64 ((j + 1 + 2 : Nat) : Int), .int .i64 0])) (by simp [results, Tryd.results46, go_sem, valV, s0, s1, s2]) rfl ⟨by rw [HT.out, HO.out, ← HS.out]; rfl, (((hb0.trans ((hbw.mono (Nat.le_succ w.heap.size)).alloc (by omega) _)).setCell (p := ⟨w.heap.size, 0, none⟩) (Nat.le_refl _) _).setCell (p := ⟨w.heap.size, 1, none⟩) (Nat.le_refl _) _).setCell (p := ⟨w.heap.size, 2, none⟩) (Nat.le_refl _) _⟩
                · have d1 : x ≠ 0 := fun h => d0 (UInt8.toNat_inj.1 (hx.trans h))
                  have e1 : ((x : Int) == 0) = false := by simp; omega
                  by_cases d255 : d = 255
                  · have hx5 : x = 255 := by rw [← hx, d255]; rfl
                    have e2 : ((x : Int) != 255) = false := by simp [hx5]
                    by_cases hfull : 200 ≤ S.size
                    · have hout : takeS [] 1 r = .no 32 := by rw [← HE.out, d255]; simp [takeS, ← HAz.out, hfull]
                      clear hx hx5 d255 HE y0 d0 d1
                      have HO := Lib.hid hout
                      clear hout
                      obtain ⟨r0, r1, r2, q0, q1, q2⟩ := HResA.out
                      go_wp2_with fail
                      have s0 := fun x => (Res.set HResA.out x x x).1
                      have s1 := fun x y => (Res.set HResA.out x y y).2.1
                      have s2 := fun x y z => (Res.set HResA.out x y z).2.2
                      exact bodyPost_ret (v := noV 32) (by simp [results, Tryd.results46, go_sem, noV, valV, s0, s1, s2]) rfl ⟨by rw [HT.out, HO.out]; rfl, (((hb0.trans ((hbw.mono (Nat.le_succ w.heap.size)).alloc (by omega) _)).setCell (p := ⟨w.heap.size, 0, none⟩) (Nat.le_refl _) _).setCell (p := ⟨w.heap.size, 1, none⟩) (Nat.le_refl _) _).setCell (p := ⟨w.heap.size, 2, none⟩) (Nat.le_refl _) _⟩
                    · have hnx : takeS (acc ++ [y]) (j + 2 + 1) (r.drop (j + 2)) = takeS [] 1 r := by rw [← HE.out, d255, y0]; simp [takeS, ← HAz.out, hfull]
                      have HNx := Lib.hid hnx
                      clear hx hx5 d255 HE y0 d0 d1 hnx
                      go_wp2_with fail
                      go_roundw
                      case rel =>
                        skip
                        exact ⟨acc ++ [y], j + 2, by rw [HNew.out], by go_num, by omega, by rw [List.length_append, ← HAz.out]; simp only [List.length_cons, List.length_nil]; omega, HNx.out, (hbw.alloc (by omega) _)⟩
                      case measure => simp [intOf]; omega
                  · have hx5 : x ≠ 255 := fun h => d255 (UInt8.toNat_inj.1 (hx.trans h))
                    have e2 : ((x : Int) != 255) = true := by simp; omega
                    have hout : takeS [] 1 r = .no 10 := by rw [← HE.out]; simp [takeS, d0, d255]
                    clear hx hx5 d255 HE y0 d0 d1
                    have HO := Lib.hid hout
                    clear hout
                    obtain ⟨r0, r1, r2, q0, q1, q2⟩ := HResA.out
                    go_wp2_with fail
                    have s0 := fun x => (Res.set HResA.out x x x).1
                    have s1 := fun x y => (Res.set HResA.out x y y).2.1
                    have s2 := fun x y z => (Res.set HResA.out x y z).2.2
                    exact bodyPost_ret (v := noV 10) (by simp [results, Tryd.results46, go_sem, noV, valV, s0, s1, s2]) rfl ⟨by rw [HT.out, HO.out]; rfl, (((hb0.trans ((hbw.mono (Nat.le_succ w.heap.size)).alloc (by omega) _)).setCell (p := ⟨w.heap.size, 0, none⟩) (Nat.le_refl _) _).setCell (p := ⟨w.heap.size, 1, none⟩) (Nat.le_refl _) _).setCell (p := ⟨w.heap.size, 2, none⟩) (Nat.le_refl _) _⟩
              · have hl : r.drop (j + 1) = [] := List.drop_eq_nil_of_le (by omega)
                have hout : takeS [] 1 r = .no 20 := by rw [← HD.out, hl, y0]; simp [takeS]
                clear hl y0
                have HO := Lib.hid hout
                clear hout
                obtain ⟨r0, r1, r2, q0, q1, q2⟩ := HResA.out
                go_wp2_with fail
                have s0 := fun x => (Res.set HResA.out x x x).1
                have s1 := fun x y => (Res.set HResA.out x y y).2.1
                have s2 := fun x y z => (Res.set HResA.out x y z).2.2
                exact bodyPost_ret (v := noV 20) (by simp [results, Tryd.results46, go_sem, noV, valV, s0, s1, s2]) rfl ⟨by rw [HT.out, HO.out]; rfl, (((hb0.trans ((hbw.mono (Nat.le_succ w.heap.size)).alloc (by omega) _)).setCell (p := ⟨w.heap.size, 0, none⟩) (Nat.le_refl _) _).setCell (p := ⟨w.heap.size, 1, none⟩) (Nat.le_refl _) _).setCell (p := ⟨w.heap.size, 2, none⟩) (Nat.le_refl _) _⟩
            · have hz0 : z ≠ 0 := fun h => y0 (UInt8.toNat_inj.1 (hz.trans h))
              have e0 : ((z : Int) == 0) = false := by simp; omega
              have h1 := takeS_other y0 acc (j + 1) (r.drop (j + 1))
              rw [HD.out, ← HAz.out] at h1
              by_cases hfull : 200 ≤ S.size
              · rw [if_pos hfull] at h1
                have hout := h1
                clear h1 hz y0
                have HO := Lib.hid hout
                clear hout
                obtain ⟨r0, r1, r2, q0, q1, q2⟩ := HResA.out
                go_wp2_with fail
                have s0 := fun x => (Res.set HResA.out x x x).1
                have s1 := fun x y => (Res.set HResA.out x y y).2.1
                have s2 := fun x y z => (Res.set HResA.out x y z).2.2
                exact bodyPost_ret (v := noV 32) (by simp [results, Tryd.results46, go_sem, noV, valV, s0, s1, s2]) rfl ⟨by rw [HT.out, HO.out]; rfl, (((hb0.trans ((hbw.mono (Nat.le_succ w.heap.size)).alloc (by omega) _)).setCell (p := ⟨w.heap.size, 0, none⟩) (Nat.le_refl _) _).setCell (p := ⟨w.heap.size, 1, none⟩) (Nat.le_refl _) _).setCell (p := ⟨w.heap.size, 2, none⟩) (Nat.le_refl _) _⟩
              · rw [if_neg hfull] at h1
                have HNx := Lib.hid h1.symm
                clear h1 hz y0
                go_wp2_with fail
                go_roundw
                case rel =>
                  skip
                  exact ⟨acc ++ [y], j + 1, by rw [HNew.out], by go_num, by omega, by rw [List.length_append, ← HAz.out]; simp only [List.length_cons, List.length_nil]; omega, HNx.out, (hbw.alloc (by omega) _)⟩
                case measure => simp [intOf]; omega
          · obtain rfl : j = r.length := by omega
            have hout : takeS [] 1 r = .no 20 := by rw [← HA.out, List.drop_eq_nil_of_le (Nat.le_refl _)]; cases acc <;> rfl
            have HO := Lib.hid hout
            clear hout
            obtain ⟨r0, r1, r2, q0, q1, q2⟩ := HResW.out
            go_wp2_with fail
            have s0 := fun x => (Res.set HResW.out x x x).1
            have s1 := fun x y => (Res.set HResW.out x y y).2.1
            have s2 := fun x y z => (Res.set HResW.out x y z).2.2
            exact bodyPost_ret (v := noV 20) (by simp [results, Tryd.results46, go_sem, noV, valV, s0, s1, s2]) rfl ⟨by rw [HT.out, HO.out]; rfl, (((hb0.trans (hbw.mono (by omega))).setCell (p := ⟨w.heap.size, 0, none⟩) (Nat.le_refl _) _).setCell (p := ⟨w.heap.size, 1, none⟩) (Nat.le_refl _) _).setCell (p := ⟨w.heap.size, 2, none⟩) (Nat.le_refl _) _⟩
      · have HT : Hid (takeV (b :: r) = noV 22) := Lib.hid (by simp [takeV, c1, c2])
        have e1 : ((b.toNat : Int) == 1) = false := by
          have : b.toNat ≠ 1 := fun h => c1 (UInt8.toNat_inj.1 (h.trans rfl))
          simp; omega
        have e2 : ((b.toNat : Int) != 2) = true := by
          have : b.toNat ≠ 2 := fun h => c2 (UInt8.toNat_inj.1 (h.trans rfl))
          simp; omega
        obtain ⟨x, hx⟩ : ∃ x, b.toNat = x := ⟨_, rfl⟩
        rw [hx] at hcell0 hx0 e1 e2
        clear hx c1 c2
        go_enter Tryd.func46, Tryd.ntmps46
        go_wp2_with fail
        exact bodyPost_ret (v := noV 22) (by simp [results, Tryd.results46, go_sem, noV, valV]) rfl ⟨by rw [HT.out], hb0⟩
end Go.Proofs.YtgacphpkgaobkaaDoor
