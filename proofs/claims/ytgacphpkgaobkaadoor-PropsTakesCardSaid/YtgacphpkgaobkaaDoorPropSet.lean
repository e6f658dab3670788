/- The document's own answers for lists of properties: what is set. -/
import Derived.Test.YtgacphpkgaobkaaDoorPropPut
import Derived.Laws.AppendOwnNone
set_option linter.unusedVariables false
namespace Go.Proofs.YtgacphpkgaobkaaDoor
open Go Go.RowKit

theorem cellsP_len (zs : List Prop4) : (zs.flatMap cellsP).length = zs.length * 4 := by
  induction zs with
  | nil => rfl
  | cons z r ih => rw [List.flatMap_cons, List.length_append, ih, List.length_cons]; simp only [cellsP, List.length_cons, List.length_nil]; omega
theorem cellsP_at : ∀ (zs : List Prop4) (k : Nat), k < zs.length → (zs.flatMap cellsP)[k * 4]? = some (.string (zs.getD k Prop4.no).1) ∧ (zs.flatMap cellsP)[k * 4 + 1]? = some (.int .i64 (zs.getD k Prop4.no).2.1) ∧
    (zs.flatMap cellsP)[k * 4 + 2]? = some (.int .i64 (zs.getD k Prop4.no).2.2.1) ∧ (zs.flatMap cellsP)[k * 4 + 3]? = some (.string (zs.getD k Prop4.no).2.2.2)
  | [], k, h => by simp at h
  | z :: r, 0, _ => by simp [cellsP]
  | z :: r, k + 1, h => by
    have ih := cellsP_at r k (by simpa using h)
    have e : ∀ j, ((z :: r).flatMap cellsP)[(k + 1) * 4 + j]? = (r.flatMap cellsP)[k * 4 + j]? := by
      intro j
      rw [List.flatMap_cons, List.getElem?_append_right (by simp only [cellsP, List.length_cons, List.length_nil]; omega)]
      congr 1
      simp only [cellsP, List.length_cons, List.length_nil]
      omega
    have e0 := e 0
    simp only [Nat.add_zero] at e0
    have g : (z :: r).getD (k + 1) Prop4.no = r.getD k Prop4.no := by simp
    rw [g, e0, e 1, e 2, e 3]
    exact ih
theorem cellsP_one (zs : List Prop4) : ∀ u ∈ zs.flatMap cellsP, u.oneCell' = true := by
  intro u hu
  obtain ⟨z, _, hz⟩ := List.mem_flatMap.1 hu
  simp only [cellsP, List.mem_cons, List.not_mem_nil, or_false] at hz
  rcases hz with rfl | rfl | rfl | rfl <;> rfl
theorem RdP.cells {w : World} {ad : Addr} {zs : List Prop4} (h : RdP w (some ad) zs) (j : Nat) (u : Value) (hu : (zs.flatMap cellsP)[j]? = some u) : w.cell? (ad.add j) = some u := by
  have hlt : j < zs.length * 4 := by
    rcases Nat.lt_or_ge j ((zs.flatMap cellsP).length) with h1 | h1
    · rw [cellsP_len] at h1; exact h1
    · rw [List.getElem?_eq_none h1] at hu; cases hu
  obtain ⟨k, q, hj, hq⟩ : ∃ k q, j = k * 4 + q ∧ q < 4 := ⟨j / 4, j % 4, by omega, by omega⟩
  have hk : k < zs.length := by omega
  obtain ⟨ae, he, _, h0, h1, h2, h3⟩ := h k hk
  obtain rfl : ad = ae := by injection he
  obtain ⟨c0, c1, c2, c3⟩ := cellsP_at zs k hk
  subst hj
  match q, hq with
  | 0, _ => rw [Nat.add_zero] at hu ⊢; rw [c0] at hu; rw [h0]; exact hu
  | 1, _ => rw [c1] at hu; rw [h1]; exact hu
  | 2, _ => rw [c2] at hu; rw [h2]; exact hu
  | 3, _ => rw [c3] at hu; rw [h3]; exact hu
/-- A row that the call made can be read. -/
theorem PRow.rd {w : World} {B n : Nat} {v : Value} {zs : List Prop4} (h : PRow w B v n zs) : ∃ A c, v = .slice A zs.length c ∧ zs.length ≤ c ∧ (A = none → c = 0) ∧ RdP w A zs := by
  unfold PRow at h
  have hn := h.1
  rw [cellsP_len] at hn
  rcases h.2 with ⟨hv, hl⟩ | ⟨g, cap, cur, hv, hB, hg, hnc, hrest⟩
  · obtain rfl : zs = [] := List.length_eq_zero_iff.1 (by omega)
    exact ⟨none, 0, by rw [hv]; rfl, Nat.le_refl _, fun _ => rfl, fun k hk => by simp at hk⟩
  · refine ⟨some ⟨g, 0, none⟩, cap, by rw [hv]; congr 1; omega, by omega, (fun e => by cases e), ?_⟩
    intro k hk
    have hlt := h.lt g (by rw [hv]; rfl)
    obtain ⟨c0, c1, c2, c3⟩ := cellsP_at zs k hk
    exact ⟨_, rfl, hlt.2, h.cells (g := g) (by rw [hv]; rfl) _ _ c0, h.cells (g := g) (by rw [hv]; rfl) _ _ c1, h.cells (g := g) (by rw [hv]; rfl) _ _ c2, h.cells (g := g) (by rw [hv]; rfl) _ _ c3⟩
theorem PRow.base {w : World} {B B' n : Nat} {v : Value} {zs : List Prop4} (h : PRow w B v n zs) (hB : B' ≤ B) : PRow w B' v n zs := by
  unfold PRow at h ⊢
  rcases h.2 with hv | ⟨g', cap, cur, hv, hBg, hrest⟩
  · exact ⟨h.1, .inl hv⟩
  · exact ⟨h.1, .inr ⟨g', cap, cur, hv, Nat.le_trans hB hBg, hrest⟩⟩
/-- A list put behind nil: a row of the call's own. -/
theorem wpList_append_props {w : World} {ops : Array Oper} {rest : List Oper} {o : Oper} {a : Act} {Q : Exit → Act → World → Prop} (hgd : o.guard = none) (s x : Operand)
    (ho : o.op = .call { callee := .builtin .append, args := #[s, x], argTypes := #[22, 22] }) (base : Nat) (hs : a.eval s = .slice none 0 0)
    (A : Option Addr) (c : Nat) (zs : List Prop4) (hx : a.eval x = .slice A zs.length c) (hA : A = none → c = 0) (hc : zs.length ≤ c) (hl : zs.length ≤ 1000000) (hrd : RdP w A zs) (hbase : base ≤ w.heap.size)
    (h : ∀ v' w', PRow w' base v' zs.length zs → Below w.heap.size w w' → wpList Tryd.prog ops Q rest (a.put o.dst v') w') : wpList Tryd.prog ops Q (o :: rest) a w := by
  obtain ⟨i0, hi, hz0, hz1, hz2⟩ := info_parts prop_info
  cases A with
  | none =>
    have hc0 := hA rfl
    obtain rfl : zs = [] := List.length_eq_zero_iff.1 (by omega)
    subst hc0
    exact wpList_append_own_none hgd s x 22 ho base 41 i0 4 Tryd.underlying22 hi _ 0 [] hs (World.ownsRow_nil _ _ _ _) hx (h _ _ (World.ownsRow_nil _ _ _ _) (Below.refl _ _))
  | some ad =>
    refine wpList_append_own _ hgd s x 22 ho base 41 i0 _ 4 48 Tryd.underlying22 hi hz0 hz1 hz2 rfl (by decide) _ 0 [] hs (World.ownsRow_nil _ _ _ _) ad zs.length c (zs.flatMap cellsP) hx (cellsP_len zs) hrd.cells (cellsP_one zs) (by unfold maxLen; omega) (by omega) hbase ?_
    intro v' w' hown hgrow _
    refine h v' w' ?_ ((Below.refl _ _).grown hgrow (Nat.le_refl _) (fun k' hk' => by cases hk'))
    unfold PRow
    simpa using hown
def setFrom : List Prop4 → List Prop4 → Int × List Prop4
  | acc, [] => if acc.length ≤ 16 then (0, acc) else (32, [])
  | acc, y :: r => if nameK y then (if okK y then setFrom (putFrom false acc y) r else (22, [])) else (30, [])
def setP (zs ys : List Prop4) : Int × List Prop4 := if rightP zs then setFrom zs ys else (2, [])
theorem putFrom_mem : ∀ (zs : List Prop4) (d : Bool) (p z : Prop4), z ∈ putFrom d zs p → z ∈ zs ∨ z = p
  | [], d, p, z, h => by cases d <;> simp [putFrom] at h; exact .inr h
  | y :: r, d, p, z, h => by
    unfold putFrom at h
    rcases List.mem_append.1 h with h | h
    · split at h
      · exact .inr (List.mem_singleton.1 h)
      · cases h
    · rcases List.mem_append.1 h with h | h
      · split at h
        · cases h
        · exact .inl (by rw [List.mem_singleton.1 h]; exact List.mem_cons_self)
      · rcases putFrom_mem r _ p z h with h | h
        · exact .inl (List.mem_cons_of_mem _ h)
        · exact .inr h
theorem putFrom_len : ∀ (zs : List Prop4) (d : Bool) (p : Prop4), (putFrom d zs p).length ≤ zs.length + (if d then 0 else 1)
  | [], d, p => by cases d <;> simp [putFrom]
  | y :: r, d, p => by
    have ih := putFrom_len r (d || decide (0 ≤ cmpK y.1 p.1)) p
    unfold putFrom
    rw [List.length_append, List.length_append, List.length_cons]
    cases d <;> by_cases h0 : 0 ≤ cmpK y.1 p.1 <;> by_cases h1 : cmpK y.1 p.1 = 0 <;> simp [h0, h1] at ih ⊢ <;> omega
def SetPost (w : World) (r : Int × List Prop4) (e : Ending) (w' : World) : Prop := ∃ v, e = .returned (.tuple #[v, .int .i64 r.1]) ∧ PRow w' w.heap.size v r.2.length r.2 ∧ Below w.heap.size w w'

set_option maxHeartbeats 2000000 in
set_option maxRecDepth 100000 in
theorem refSet_any (A B : Option Addr) (c d : Nat) (zs ys : List Prop4) (w : World) (h : RdP w A zs) (hA : A = none → c = 0) (g : RdP w B ys) (hc : zs.length ≤ c) (hd : ys.length ≤ d) (hl2 : ys.length ≤ 1000)
    (hz : ∀ z ∈ zs, z.1.size ≤ 1000000) (hy : ∀ z ∈ ys, z.1.size ≤ 1000000) :
    Calls Tryd.prog 12 #[.slice A zs.length c, .slice B ys.length d] w (SetPost w (setP zs ys)) := by
  have HRd := Lib.hid h
  have HRe := Lib.hid g
  have HZ := Lib.hid hz
  have HY := Lib.hid hy
  have cR := refRightP_any A c zs w h hc (fun k hk => hz _ (by rw [List.getD_eq_getElem?_getD, List.getElem?_eq_getElem hk]; exact List.getElem_mem hk))
  have CR := Lib.hid cR
  clear h g hz hy cR
  go_enter Tryd.func12, Tryd.ntmps12
  go_wp2_with fail
  refine CR.out.mono ?_
  rintro e w1 ⟨rfl, b1⟩
  have hs1 := b1.size
  by_cases hr : rightP zs = true
  · have HP : Hid (setP zs ys = setFrom zs ys) := Lib.hid (by unfold setP; rw [if_pos hr])
    have hl : zs.length ≤ 16 := by
      unfold rightP at hr
      simp only [Bool.and_eq_true, decide_eq_true_eq] at hr
      exact hr.1
    have hrd1 := HRd.out.below (Nat.le_refl _) b1
    have HRd1 := Lib.hid hrd1
    clear hrd1
    go_wp2_with (at_builtin; refine wpList_append_props rfl _ _ rfl w.heap.size rfl A c zs rfl hA hc (by omega) HRd1.out hs1 ?_)
    intro v w2 hrow0 b2
    have hb2 := btV b1 b2
    go_wp2_with fail
    go_loopw [6, 7] (fun x i wr => ∃ (acc : List Prop4) (k : Nat) (v : Value), v = x ∧ i = .int .i64 (k : Nat) ∧ k ≤ ys.length ∧ PRow wr w.heap.size v acc.length acc ∧ (∀ z ∈ acc, z.1.size ≤ 1000000) ∧ acc.length ≤ 16 + k ∧ setFrom acc (ys.drop k) = setFrom zs ys ∧ Below w.heap.size w wr) (fun _ i _ => ys.length - (intOf i).toNat)
    case atStart => exact ⟨zs, 0, _, rfl, rfl, Nat.zero_le _, hrow0, HZ.out, by omega, by simp, hb2⟩
    case round =>
      obtain ⟨acc, k, v, rfl, rfl, hk, hrow, hkeys, hal, hacc, hbw⟩ := hrel
      have hbs := hbw.size
      obtain ⟨A', c', rfl, hc', hA', hrd⟩ := hrow.rd
      have HRow := Lib.hid hrow
      have HAr := Lib.hid hrd
      have HKs := Lib.hid hkeys
      clear hrow hrd hkeys
      by_cases hlt : k < ys.length
      · rw [drop_getD ys k hlt] at hacc
        have hrd := HRe.out.below (Nat.le_refl _) hbw
        obtain ⟨ad, rfl, _, h0, h1, h2, h3⟩ := hrd.at4 hlt
        have HRdw := Lib.hid hrd
        have hkz := HY.out (ys.getD k Prop4.no) (by rw [List.getD_eq_getElem?_getD, List.getElem?_eq_getElem hlt]; exact List.getElem_mem hlt)
        clear hrd
        obtain ⟨z, hz⟩ : ∃ z, ys.getD k Prop4.no = z := ⟨_, rfl⟩
        rw [hz] at h0 h1 h2 h3 hacc hkz
        have HZz := Lib.hid hz
        clear hz
        obtain ⟨a, kk, n, s⟩ := z
        dsimp only at h0 h1 h2 h3 hkz
        have hst : (if nameL (runes a.data.toList) = true then (if rightV kk n s = true then setFrom (putFrom false acc (a, kk, n, s)) (ys.drop (k + 1)) else (22, [])) else (30, [])) = setFrom zs ys := hacc
        have HSt := Lib.hid hst
        clear hst hacc
        have cN := fun W => refRight_any a W hkz
        have cV := fun W => refRightV_any kk n s W
        unfold valV at cV
        obtain ⟨bn, hbn⟩ : ∃ b, nameL (runes a.data.toList) = b := ⟨_, rfl⟩
        obtain ⟨bv, hbv⟩ : ∃ b, rightV kk n s = b := ⟨_, rfl⟩
        rw [hbn] at cN
        rw [hbv] at cV
        have HBn := Lib.hid hbn
        have HBv := Lib.hid hbv
        have CN := Lib.hid cN
        have CV := Lib.hid cV
        clear hbn hbv cN cV
        cases bn
        · have hout : setP zs ys = (30, []) := by rw [HP.out, ← HSt.out, HBn.out]; rfl
          have HO := Lib.hid hout
          clear hout
          go_wp2_with fail
          refine (CN.out _).mono ?_
          rintro e w3 ⟨rfl, b3⟩
          go_wp2_with fail
          exact bodyPost_ret (v := .tuple #[.slice none 0 0, .int .i64 30]) (by simp [results, Tryd.results12, go_sem]) rfl ⟨_, by rw [HO.out], by rw [HO.out]; exact World.ownsRow_nil _ _ _ _, btV hbw b3⟩
        · go_wp2_with fail
          refine (CN.out _).mono ?_
          rintro e w3 ⟨rfl, b3⟩
          have hbw3 := btV hbw b3
          obtain ⟨ae, hae, _, g0, g1, g2, g3⟩ := (HRdw.out.below (Nat.le_refl _) b3).at4 hlt
          obtain rfl : ad = ae := by injection hae
          rw [HZz.out] at g0 g1 g2 g3
          dsimp only at g0 g1 g2 g3
          clear hae
          go_wp2_with fail
          refine (CV.out _).mono ?_
          rintro e w4 ⟨rfl, b4⟩
          have hbw4 := btV hbw3 b4
          obtain ⟨ae, hae, _, q0, q1, q2, q3⟩ := ((HRdw.out.below (Nat.le_refl _) b3).below (Nat.le_refl _) b4).at4 hlt
          obtain rfl : ad = ae := by injection hae
          rw [HZz.out] at q0 q1 q2 q3
          dsimp only at q0 q1 q2 q3
          clear g0 g1 g2 g3 h0 h1 h2 h3 hae
          cases bv
          · have hout : setP zs ys = (22, []) := by rw [HP.out, ← HSt.out, HBn.out, HBv.out]; rfl
            have HO := Lib.hid hout
            clear hout
            go_wp2_with fail
            exact bodyPost_ret (v := .tuple #[.slice none 0 0, .int .i64 22]) (by simp [results, Tryd.results12, go_sem]) rfl ⟨_, by rw [HO.out], by rw [HO.out]; exact World.ownsRow_nil _ _ _ _, hbw4⟩
          · have hout : setFrom (putFrom false acc (a, kk, n, s)) (ys.drop (k + 1)) = setFrom zs ys := by rw [← HSt.out, HBn.out, HBv.out]; rfl
            have HO := Lib.hid hout
            clear hout
            have har4 := (HAr.out.below (Nat.le_refl _) b3).below (Nat.le_refl _) b4
            have hpl := putFrom_len acc false (a, kk, n, s)
            simp only [Bool.false_eq_true, if_false] at hpl
            have cP := refPut_any A' c' acc a kk n s w4 har4 hc' (by omega) (fun j hj => HKs.out _ (by rw [List.getD_eq_getElem?_getD, List.getElem?_eq_getElem hj]; exact List.getElem_mem hj)) hkz
            have CP := Lib.hid cP
            clear cP har4
            go_wp2_with fail
            refine CP.out.mono ?_
            rintro e w5 ⟨v5, l5, rfl, hl5, hrow5, b5⟩
            have hbw5 := btV hbw4 b5
            have hs4 := hbw4.size
            go_wp2_with fail
            go_roundw
            case rel =>
              refine ⟨putFrom false acc (a, kk, n, s), k + 1, v5, rfl, by go_num, by omega, by rw [← hl5]; exact hrow5.base (by omega), ?_, by omega, HO.out, hbw5⟩
              intro z hz
              rcases putFrom_mem _ _ _ _ hz with hz | hz
              · exact HKs.out z hz
              · rw [hz]; exact hkz
            case measure => simp [intOf]; omega
      · obtain rfl : k = ys.length := by omega
        rw [List.drop_eq_nil_of_le (Nat.le_refl _)] at hacc
        have hst : (if acc.length ≤ 16 then ((0, acc) : Int × List Prop4) else (32, [])) = setFrom zs ys := hacc
        by_cases hm : acc.length ≤ 16
        · rw [if_pos hm] at hst
          have hout : setP zs ys = (0, acc) := by rw [HP.out, ← hst]
          have HO := Lib.hid hout
          clear hout hst hacc
          go_wp2_with fail
          exact bodyPost_ret (v := .tuple #[.slice A' acc.length c', .int .i64 0]) (by simp [results, Tryd.results12, go_sem]) rfl ⟨_, by rw [HO.out], by rw [HO.out]; exact HRow.out, hbw⟩
        · rw [if_neg hm] at hst
          have hout : setP zs ys = (32, []) := by rw [HP.out, ← hst]
          have HO := Lib.hid hout
          clear hout hst hacc
          go_wp2_with fail
          exact bodyPost_ret (v := .tuple #[.slice none 0 0, .int .i64 32]) (by simp [results, Tryd.results12, go_sem]) rfl ⟨_, by rw [HO.out], by rw [HO.out]; exact World.ownsRow_nil _ _ _ _, hbw⟩
  · have HP : Hid (setP zs ys = (2, [])) := Lib.hid (by unfold setP; rw [if_neg hr])
    have hr0 : rightP zs = false := by simpa using hr
    rw [hr0]
    go_wp2_with fail
    exact bodyPost_ret (v := .tuple #[.slice none 0 0, .int .i64 2]) (by simp [results, Tryd.results12, go_sem]) rfl ⟨_, by rw [HP.out], by rw [HP.out]; exact World.ownsRow_nil _ _ _ _, b1⟩
end Go.Proofs.YtgacphpkgaobkaaDoor
