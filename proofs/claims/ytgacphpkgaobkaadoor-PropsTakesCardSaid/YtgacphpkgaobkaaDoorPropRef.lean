/- The document's own answers for lists of properties: which are small, where a key is, whether two are the same. -/
import Derived.Test.YtgacphpkgaobkaaDoorOpenW
import Derived.Test.YtgacphpkgaobkaaDoorValEq
set_option linter.unusedVariables false
namespace Go.Proofs.YtgacphpkgaobkaaDoor
open Go Go.RowKit

/-- A property: key, kind, number, text. -/
abbrev Prop4 : Type := ByteArray × Int × Int × ByteArray
def Prop4.no : Prop4 := (ByteArray.empty, 0, 0, ByteArray.empty)
/-- What lies behind a slice of properties. -/
def RdP (w : World) (A : Option Addr) (zs : List Prop4) : Prop := ∀ k, k < zs.length → ∃ ad, A = some ad ∧ ad.block < w.heap.size ∧
  w.cell? (ad.add (k * 4)) = some (.string (zs.getD k Prop4.no).1) ∧ w.cell? (ad.add (k * 4 + 1)) = some (.int .i64 (zs.getD k Prop4.no).2.1) ∧
  w.cell? (ad.add (k * 4 + 2)) = some (.int .i64 (zs.getD k Prop4.no).2.2.1) ∧ w.cell? (ad.add (k * 4 + 3)) = some (.string (zs.getD k Prop4.no).2.2.2)
theorem RdP.below {w w' : World} {B : Nat} {A : Option Addr} {zs : List Prop4} (h : RdP w A zs) (hB : w.heap.size ≤ B) (hb : Below B w w') : RdP w' A zs := by
  intro k hk
  obtain ⟨ad, e, hlt, h0, h1, h2, h3⟩ := h k hk
  have hbl : ∀ j, (ad.add j).block = ad.block := fun j => add_block ad j
  refine ⟨ad, e, Nat.lt_of_lt_of_le hlt hb.size, ?_, ?_, ?_, ?_⟩
  · rw [World.cell?_of_block (hb.block _ (by rw [hbl]; omega))]; exact h0
  · rw [World.cell?_of_block (hb.block _ (by rw [hbl]; omega))]; exact h1
  · rw [World.cell?_of_block (hb.block _ (by rw [hbl]; omega))]; exact h2
  · rw [World.cell?_of_block (hb.block _ (by rw [hbl]; omega))]; exact h3
def findP (key : ByteArray) : Nat → List Prop4 → Int
  | _, [] => -1
  | k, z :: r => if z.1 = key then (k : Int) else findP key (k + 1) r
theorem drop_getD (zs : List Prop4) (k : Nat) (h : k < zs.length) : zs.drop k = zs.getD k Prop4.no :: zs.drop (k + 1) := by
  rw [List.drop_eq_getElem_cons h]
  simp [List.getD_eq_getElem?_getD, List.getElem?_eq_getElem h]
set_option maxHeartbeats 1000000 in
set_option maxRecDepth 100000 in
theorem refFind_any (A : Option Addr) (c : Nat) (zs : List Prop4) (key : ByteArray) (w : World) (h : RdP w A zs) (hc : zs.length ≤ c) (hlen : zs.length ≤ 1000000) :
    Calls Tryd.prog 20 #[.slice A zs.length c, .string key] w fun e w' => e = .returned (.int .i64 (findP key 0 zs)) ∧ w = w' := by
  have HRd := Lib.hid h
  clear h
  go_enter Tryd.func20, Tryd.ntmps20
  go_wp2_with fail
  go_loop [5] (fun i => ∃ k : Nat, k ≤ zs.length ∧ i = .int .i64 (k : Nat) ∧ findP key k (zs.drop k) = findP key 0 zs) (fun i => zs.length - (intOf i).toNat)
  case atStart => exact ⟨0, Nat.zero_le _, rfl, by simp⟩
  case round =>
    obtain ⟨k, hk, rfl, hacc⟩ := hrel
    have HA := Lib.hid hacc
    clear hacc
    by_cases hlt : k < zs.length
    · obtain ⟨ad, rfl, _, h0, _⟩ := HRd.out k hlt
      have hst := HA.out
      rw [drop_getD zs k hlt] at hst
      obtain ⟨z, hz⟩ : ∃ z, zs.getD k Prop4.no = z := ⟨_, rfl⟩
      rw [hz] at hst h0
      clear hz
      by_cases he : z.1 = key
      · have hout : findP key 0 zs = (k : Int) := by rw [← hst]; simp [findP, he]
        have HO := Lib.hid hout
        rw [he] at h0
        clear hout hst HA he
        have hs := str_same (a := key) rfl
        go_wp2_with fail
        go_ret
        exact ⟨ret_intV HO.out.symm, rfl⟩
      · have hout : findP key (k + 1) (zs.drop (k + 1)) = findP key 0 zs := by rw [← hst]; simp [findP, he]
        have HO := Lib.hid hout
        have hs := str_diff he
        clear hout hst HA he
        go_wp2_with fail
        go_round
        case rel => exact ⟨k + 1, by omega, by go_num, HO.out⟩
        case measure => simp [intOf]; omega
    · obtain rfl : k = zs.length := by omega
      have hout : findP key 0 zs = -1 := by rw [← HA.out, List.drop_eq_nil_of_le (Nat.le_refl _)]; rfl
      have HO := Lib.hid hout
      clear hout
      go_wp2_with fail
      go_ret
      exact ⟨ret_intV HO.out.symm, rfl⟩

theorem add_form (a : Addr) (j : Nat) : a.add (j + 1) = { block := a.block, off := a.off + (j + 1) } := by unfold Addr.add; rw [if_neg (by omega)]
theorem RdP.at4 {w : World} {A : Option Addr} {zs : List Prop4} (h : RdP w A zs) {k : Nat} (hk : k < zs.length) : ∃ ad, A = some ad ∧ ad.block < w.heap.size ∧
    w.cell? (ad.add (k * 4)) = some (.string (zs.getD k Prop4.no).1) ∧ w.cell? { block := (ad.add (k * 4)).block, off := (ad.add (k * 4)).off + 1 } = some (.int .i64 (zs.getD k Prop4.no).2.1) ∧
    w.cell? { block := (ad.add (k * 4)).block, off := (ad.add (k * 4)).off + 2 } = some (.int .i64 (zs.getD k Prop4.no).2.2.1) ∧ w.cell? { block := (ad.add (k * 4)).block, off := (ad.add (k * 4)).off + 3 } = some (.string (zs.getD k Prop4.no).2.2.2) := by
  obtain ⟨ad, e, hb, h0, h1, h2, h3⟩ := h k hk
  rw [← Go.Deep.add_add, add_form] at h1 h2 h3
  exact ⟨ad, e, hb, h0, h1, h2, h3⟩
/-- A property lies flat: four cells. -/
def propV (z : Prop4) : Value := .agg #[.string z.1, .int .i64 z.2.1, .int .i64 z.2.2.1, .string z.2.2.2]
def sameP4 (z y : Prop4) : Bool := z.1.toList == y.1.toList && sameV z.2.1 z.2.2.1 z.2.2.2 y.2.1 y.2.2.1 y.2.2.2
set_option maxRecDepth 100000 in
theorem neq_prop (a : ByteArray) (k n : Int) (s : ByteArray) (a' : ByteArray) (k' n' : Int) (s' : ByteArray) (W : World) :
    (binOp .neq 41 (.agg #[.string a, .int .i64 k, .int .i64 n, .string s]) (.agg #[.string a', .int .i64 k', .int .i64 n', .string s'])).run Tryd.prog W = .ok (.bool (!(a.toList == a'.toList && sameV k n s k' n' s'))) W := by
  rw [run_neq_struct]
  unfold sameV
  cases h0 : (a.toList == a'.toList) <;> cases h1 : (k == k') <;> cases h2 : (n == n') <;> cases h3 : (s.toList == s'.toList) <;> (go_simp; try simp [h0, h1, h2, h3, go_sem, Tryd.underlying41, Tryd.underlying36, Tryd.underlying3, Tryd.underlying9])
theorem sameP4_iff (z y : Prop4) : sameP4 z y = decide (z = y) := by
  obtain ⟨a, k, n, s⟩ := z
  obtain ⟨a', k', n', s'⟩ := y
  unfold sameP4
  rw [sameV_iff]
  by_cases h : a = a'
  · rw [str_same h, Bool.true_and, Bool.eq_iff_iff]
    simp [h]
  · rw [str_diff h, Bool.false_and, Bool.eq_iff_iff]
    simp [h]
def smallP (zs : List Prop4) : Bool := decide (zs.length ≤ 40) && zs.all (fun z => decide (z.1.size ≤ 300) && decide (z.2.2.2.size ≤ 300))
set_option maxHeartbeats 1000000 in
set_option maxRecDepth 100000 in
theorem refSame_any (A B : Option Addr) (c d : Nat) (zs ys : List Prop4) (w : World) (h : RdP w A zs) (g : RdP w B ys) (hc : zs.length ≤ c) (hd : ys.length ≤ d) (hlen : zs.length ≤ 1000000) (hlen2 : ys.length ≤ 1000000) :
    Calls Tryd.prog 13 #[.slice A zs.length c, .slice B ys.length d] w fun e w' => e = .returned (.bool (decide (zs = ys))) ∧ Below w.heap.size w w' := by
  have HRd := Lib.hid h
  have HRe := Lib.hid g
  clear h g
  by_cases hl : zs.length = ys.length
  · go_enter Tryd.func13, Tryd.ntmps13
    go_wp2_with fail
    go_loopw [5] (fun i wr => ∃ k : Nat, k ≤ zs.length ∧ i = .int .i64 (k : Nat) ∧ decide (zs.drop k = ys.drop k) = decide (zs = ys) ∧ Below w.heap.size w wr) (fun i _ => zs.length - (intOf i).toNat)
    case atStart => exact ⟨0, Nat.zero_le _, rfl, by simp, Below.refl _ _⟩
    case round =>
      obtain ⟨k, hk, rfl, hacc, hbw⟩ := hrel
      have HA := Lib.hid hacc
      clear hacc
      by_cases hlt : k < zs.length
      · obtain ⟨ad, rfl, _, h0, h1, h2, h3⟩ := (HRd.out.below (Nat.le_refl _) hbw).at4 hlt
        obtain ⟨ae, rfl, _, g0, g1, g2, g3⟩ := (HRe.out.below (Nat.le_refl _) hbw).at4 (k := k) (by omega)
        obtain ⟨z, hz⟩ : ∃ z, zs.getD k Prop4.no = z := ⟨_, rfl⟩
        obtain ⟨y, hy⟩ : ∃ y, ys.getD k Prop4.no = y := ⟨_, rfl⟩
        have hdz := drop_getD zs k hlt
        have hdy := drop_getD ys k (by omega)
        rw [hz] at h0 h1 h2 h3 hdz
        rw [hy] at g0 g1 g2 g3 hdy
        have hst := HA.out
        rw [hdz, hdy] at hst
        clear hz hy hdz hdy HA
        have hq := sameP4_iff z y
        obtain ⟨ka, kk, kn, ks⟩ := z
        obtain ⟨la, lk, ln, ls⟩ := y
        have hne := fun W => neq_prop ka kk kn ks la lk ln ls W
        obtain ⟨b, hb⟩ : ∃ b, (ka.toList == la.toList && sameV kk kn ks lk ln ls) = b := ⟨_, rfl⟩
        have hb2 : decide ((ka, kk, kn, ks) = (la, lk, ln, ls)) = b := by rw [← hq]; exact hb
        rw [hb] at hne
        have HSt := Lib.hid hst
        have HB2 := Lib.hid hb2
        clear hst hb2 hb hq
        dsimp only at h0 h1 h2 h3 g0 g1 g2 g3
        cases b
        · have hout : decide (zs = ys) = false := by
            rw [← HSt.out, decide_eq_false_iff_not]
            intro e
            have := HB2.out
            rw [decide_eq_false_iff_not] at this
            exact this (List.cons.inj e).1
          have HO := Lib.hid hout
          clear hout
          go_wp2_with fail
          go_quiet (fail)
          go_wp2_with fail
          go_ret
          exact ⟨ret_boolV HO.out.symm, below_drewN hbw _⟩
        · have hout : decide (zs.drop (k + 1) = ys.drop (k + 1)) = decide (zs = ys) := by
            rw [← HSt.out, Bool.eq_iff_iff, decide_eq_true_iff, decide_eq_true_iff]
            have := HB2.out
            rw [decide_eq_true_iff] at this
            rw [this]
            simp
          have HO := Lib.hid hout
          clear hout
          go_wp2_with fail
          go_quiet (fail)
          go_wp2_with fail
          go_roundw
          case rel => exact ⟨k + 1, by omega, by go_num, HO.out, below_drewN hbw _⟩
          case measure => simp [intOf]; omega
      · obtain rfl : k = zs.length := by omega
        have hout : decide (zs = ys) = true := by rw [← HA.out, List.drop_eq_nil_of_le (Nat.le_refl _), List.drop_eq_nil_of_le (by omega)]; rfl
        have HO := Lib.hid hout
        clear hout
        go_wp2_with fail
        go_ret
        exact ⟨ret_boolV HO.out.symm, hbw⟩
  · have hout : decide (zs = ys) = false := by
      rw [decide_eq_false_iff_not]
      intro e
      exact hl (by rw [e])
    have HO := Lib.hid hout
    clear hout
    go_enter Tryd.func13, Tryd.ntmps13
    go_wp2_with fail
    go_ret
    exact ⟨ret_boolV HO.out.symm, Below.refl _ _⟩
end Go.Proofs.YtgacphpkgaobkaaDoor
