/- The document's own Same. -/
import Derived.Test.YtpmmbbkomikceaaDoorBlRef
import Derived.Test.YtpmmbbkomikceaaDoorStrG
set_option linter.unusedVariables false
namespace Go.Proofs.YtpmmbbkomikceaaDoor
open Go Go.RowKit

def pairL (z : BlZ) : UInt8 × List UInt8 := (z.kind, z.body.bs)
theorem pairs_succ {zs ys : List BlZ} {k : Nat} (h1 : k < zs.length) (h2 : k < ys.length) (h : (zs.take k).map pairL = (ys.take k).map pairL) (e : pairL (zs.getD k default) = pairL (ys.getD k default)) : (zs.take (k + 1)).map pairL = (ys.take (k + 1)).map pairL := by
  rw [List.take_succ_eq_append_getElem h1, List.take_succ_eq_append_getElem h2, List.map_append, List.map_append, h]
  congr 1
  rw [List.getD_eq_getElem?_getD, List.getElem?_eq_getElem h1, List.getD_eq_getElem?_getD, List.getElem?_eq_getElem h2] at e
  simp only [Option.getD_some] at e
  simp only [List.map_cons, List.map_nil, e]
theorem pairs_ne {zs ys : List BlZ} {k : Nat} (h1 : k < zs.length) (h2 : k < ys.length) (e : pairL (zs.getD k default) ≠ pairL (ys.getD k default)) : zs.map pairL ≠ ys.map pairL := fun h => e (by
  have : (zs.map pairL)[k]? = (ys.map pairL)[k]? := by rw [h]
  rw [List.getElem?_map, List.getElem?_map, List.getElem?_eq_getElem h1, List.getElem?_eq_getElem h2] at this
  rw [List.getD_eq_getElem?_getD, List.getElem?_eq_getElem h1, List.getD_eq_getElem?_getD, List.getElem?_eq_getElem h2]
  exact Option.some.inj this)
theorem below_drewL {w0 w : World} (h : Below w0.heap.size w0 w) (n : Nat) : Below w0.heap.size w0 (w.drewN n) := ⟨h.os, h.tape, h.output, h.size, h.block⟩
set_option maxHeartbeats 8000000 in
set_option maxRecDepth 100000 in
theorem refSame_any (A : Option Addr) (c : Nat) (zs : List BlZ) (D : Option Addr) (d : Nat) (ys : List BlZ) (w : World) (hr : RdL w A zs) (hs : RdL w D ys) (hc : zs.length ≤ c) (hd : ys.length ≤ d) (hl : zs.length ≤ 100000) (hl2 : ys.length ≤ 100000) :
    Calls Tryd.prog 16 #[.slice A zs.length c, .slice D ys.length d] w fun e w' => e = .returned (.bool (decide (zs.map pairL = ys.map pairL))) ∧ Below w.heap.size w w' := by
  have HR := Lib.hid hr
  have HS := Lib.hid hs
  clear hr hs
  go_enter Tryd.func16, Tryd.ntmps16
  by_cases hlen : zs.length = ys.length
  · have hli : (zs.length : Int) = (ys.length : Int) := by omega
    have HLen := Lib.hid hlen
    clear hlen
    go_wp2_with fail
    go_loopw [5] (fun i wr => ∃ k : Nat, k ≤ zs.length ∧ i = .int .i64 (k : Nat) ∧ (zs.take k).map pairL = (ys.take k).map pairL ∧ Below w.heap.size w wr) (fun i _ => zs.length - (intOf i).toNat)
    case atStart => exact ⟨0, Nat.zero_le _, rfl, rfl, Below.refl _ _⟩
    case round =>
      obtain ⟨k, hk, rfl, heq, hbw⟩ := hrel
      have HEq := Lib.hid heq
      have HBw := Lib.hid hbw
      have hlen := HLen.out
      by_cases hlt : k < zs.length
      · have hlt2 : k < ys.length := by omega
        have hrk := HR.out.below (Nat.le_refl _) hbw
        have hsk := HS.out.below (Nat.le_refl _) hbw
        obtain ⟨ad, rfl, hblk, h0, h1⟩ := layL_at hrk.1 hlt
        obtain ⟨ae, rfl, hblk2, g0, g1⟩ := layL_at hsk.1 hlt2
        have hzok := hrk.2 _ (mem_getDL hlt)
        have hyok := hsk.2 _ (mem_getDL hlt2)
        have hps := pairs_succ hlt hlt2 heq
        have hpn := pairs_ne hlt hlt2
        obtain ⟨z, hz⟩ : ∃ z, zs.getD k default = z := ⟨_, rfl⟩
        obtain ⟨y, hy⟩ : ∃ y, ys.getD k default = y := ⟨_, rfl⟩
        rw [hz] at h0 h1 hzok hps hpn
        rw [hy] at g0 g1 hyok hps hpn
        obtain ⟨kd, za, zc, zb⟩ := z
        obtain ⟨ke, ya, yc, yb⟩ := y
        unfold BsZ.val at h1 g1
        unfold BsZ.ok at hzok hyok
        dsimp only at h0 h1 g0 g1 hzok hyok
        have hki : (k : Int) < (zs.length : Int) := by omega
        have hki2 : (k : Int) < (ys.length : Int) := by omega
        have HPs : Hid ((kd, zb) = (ke, yb) → (zs.take (k + 1)).map pairL = (ys.take (k + 1)).map pairL) := Lib.hid hps
        have HPn : Hid ((kd, zb) ≠ (ke, yb) → zs.map pairL ≠ ys.map pairL) := Lib.hid hpn
        have hc1 := fun (n : Nat) => (conv_rd (w := wr.drewN n) (c := zc) hzok.2 rfl)
        have hc2 := fun (n : Nat) => (conv_rd (w := wr.drewN n) (c := yc) hyok.2 rfl)
        clear hz hy hrk hsk hzok hyok hps hpn heq hbw hlen
        by_cases hkd : kd = ke
        · subst hkd
          by_cases hb : zb = yb
          · subst hb
            go_wp2_with fail
            go_quiet (fail)
            go_wp2_with fail
            go_roundw
            case rel => exact ⟨k + 1, by omega, by go_num, HPs.out (by first | rfl | trivial), below_drewL HBw.out _⟩
            case measure => simp [intOf]; omega
          · have hst : (zb == yb) = false := beq_eq_false_iff_ne.2 hb
            have hne := HPn.out (fun e => hb (by injection e))
            have HNe := Lib.hid hne
            clear hne
            go_wp2_with fail
            go_quiet (fail)
            go_wp2_with fail
            go_ret
            exact ⟨by rw [decide_eq_false HNe.out]; rfl, below_drewL HBw.out _⟩
        · have hki3 : ¬ ((kd.toNat : Int) = (ke.toNat : Int)) := fun e => hkd (UInt8.toNat_inj.1 (by omega))
          have hne := HPn.out (fun e => hkd (by injection e))
          have HNe := Lib.hid hne
          clear hne
          go_wp2_with fail
          go_quiet (fail)
          go_wp2_with fail
          go_ret
          exact ⟨by rw [decide_eq_false HNe.out]; rfl, below_drewL HBw.out _⟩
      · obtain rfl : k = zs.length := by omega
        rw [List.take_length] at heq
        rw [List.take_of_length_le (by omega)] at heq
        have HEq2 := Lib.hid heq
        clear heq hbw hlen
        go_wp2_with fail
        go_ret
        exact ⟨by rw [decide_eq_true HEq2.out]; rfl, HBw.out⟩
  · have hli : ¬ ((zs.length : Int) = (ys.length : Int)) := by omega
    have hne : zs.map pairL ≠ ys.map pairL := fun e => hlen (by have := congrArg List.length e; simpa using this)
    have HNe := Lib.hid hne
    clear hne
    go_wp2_with fail
    go_ret
    exact ⟨by rw [decide_eq_false HNe.out]; rfl, Below.refl _ _⟩
end Go.Proofs.YtpmmbbkomikceaaDoor
