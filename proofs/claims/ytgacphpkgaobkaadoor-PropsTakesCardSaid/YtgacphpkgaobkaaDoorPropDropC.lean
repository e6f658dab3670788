/- What is dropped: the library's DeleteFunc over a row of the call's own. -/
import Derived.Test.YtgacphpkgaobkaaDoorPropGetC
set_option linter.unusedVariables false
namespace Go.Proofs.YtgacphpkgaobkaaDoor
open Go Go.RowKit

theorem run_clear4 (w : World) (g o m : Nat) (cur : List Value) (t : TypeId) (hg : w.heap[g]? = some (.cells cur.toArray t (0, 0))) (hm : 0 < m) (hfit : o + m * 4 ≤ cur.length) :
    ∃ vs : List Value, vs.length = m * 4 ∧ ∀ ty c, (Builtin.clear_ #[22] ty #[.slice (some ⟨g, o, none⟩) m c]).run Tryd.prog w = .ok (.tuple #[]) (w.setRow g (splice cur o vs).toArray) := by
  obtain ⟨i0, hi, hz0, hz1, hz2⟩ := info_parts prop_info
  have hv : ∀ W, (zeroValue 41).run Tryd.prog W = .ok (.agg #[.string ⟨#[]⟩, .int .i64 0, .int .i64 0, .string ⟨#[]⟩]) W := Tryd.zeroValue41
  obtain ⟨vs, hvs⟩ : ∃ vs, (Builtin.zeroCells (Value.agg #[.string ⟨#[]⟩, .int .i64 0, .int .i64 0, .string ⟨#[]⟩]).cells m).toList = vs := ⟨_, rfl⟩
  have hl : vs.length = m * 4 := by rw [← hvs, Array.length_toList, size_zeroCells]; rfl
  have h1 : ∀ v ∈ vs, v.oneCell' = true := by
    intro v hv
    rw [← hvs] at hv
    obtain ⟨j, _, hj⟩ := Array.mem_map.1 (Array.mem_toList_iff.1 hv)
    rw [← hj]
    have h4 : j % 4 < 4 := Nat.mod_lt _ (by decide)
    have e : (Value.agg #[.string ⟨#[]⟩, .int .i64 0, .int .i64 0, .string ⟨#[]⟩]).cells = #[.string ⟨#[]⟩, .int .i64 0, .int .i64 0, .string ⟨#[]⟩] := rfl
    rw [e]
    show Value.oneCell' (#[Value.string ⟨#[]⟩, .int .i64 0, .int .i64 0, .string ⟨#[]⟩][j % 4]!) = true
    match j % 4, h4 with
    | 0, _ => rfl
    | 1, _ => rfl
    | 2, _ => rfl
    | 3, _ => rfl
  have hst := run_storeCells_at Tryd.prog g o t vs 0 cur.toArray w hg (by simpa [hl] using hfit) h1
  simp only [Nat.add_zero] at hst
  have hsp : cur.take o ++ vs ++ cur.drop (o + vs.length) = splice cur o vs := by unfold splice; rw [List.append_assoc]
  rw [hsp] at hst
  refine ⟨vs, hl, fun ty c => ?_⟩
  obtain ⟨m', rfl⟩ : ∃ m', m = m' + 1 := ⟨m - 1, by omega⟩
  simp [Builtin.clear_, run_underlying Tryd.underlying22, hv, hvs, hst]
theorem filter_none : ∀ (zs : List Prop4) (p : Prop4 → Bool), (∀ k, k < zs.length → p (zs.getD k Prop4.no) = false) → zs.filter (fun z => !p z) = zs
  | [], p, _ => rfl
  | z :: r, p, h => by
    have h0 : p z = false := h 0 (by simp)
    rw [List.filter_cons, h0, filter_none r p (fun k hk => h (k + 1) (by simpa using hk))]
    rfl
theorem filter_ahead (zs : List Prop4) (p : Prop4 → Bool) (i : Nat) (hi : i < zs.length) (h1 : p (zs.getD i Prop4.no) = true) (h0 : ∀ k, k < i → p (zs.getD k Prop4.no) = false) : (zs.take (i + 1)).filter (fun z => !p z) = zs.take i := by
  rw [take_succ_getD zs i hi, List.filter_append, List.filter_cons, h1, List.filter_nil]
  have := filter_none (zs.take i) p (fun k hk => by
    have hki : k < i := by rw [List.length_take] at hk; omega
    rw [List.getD_eq_getElem?_getD, List.getElem?_take, if_pos hki, ← List.getD_eq_getElem?_getD]
    exact h0 k hki)
  rw [this]
  simp
theorem getD_drop (L zs : List Prop4) (j : Nat) (h : L.drop j = zs.drop j) (hj : j < zs.length) (hl : L.length = zs.length) : L.getD j Prop4.no = zs.getD j Prop4.no := by
  have h1 := drop_getD L j (by omega)
  have h2 := drop_getD zs j hj
  rw [h1, h2] at h
  exact (List.cons.inj h).1
theorem take_set (L : List Prop4) (i : Nat) (z : Prop4) (hi : i < L.length) : (L.set i z).take (i + 1) = L.take i ++ [z] := by
  rw [take_succ_getD _ i (by rw [List.length_set]; exact hi)]
  rw [List.take_set, List.set_eq_of_length_le (by rw [List.length_take]; omega), List.getD_eq_getElem?_getD, List.getElem?_set_self hi]
  rfl
theorem drop_set (L : List Prop4) (i j : Nat) (z : Prop4) (hi : i < j) : (L.set i z).drop j = L.drop j := by
  rw [List.drop_set, if_pos hi]

set_option maxHeartbeats 2000000 in
set_option maxRecDepth 100000 in
theorem deleteP_any (v : Value) (zs : List Prop4) (g : Nat) (u : Value) (p : Prop4 → Bool) (B : Nat) (w0 w : World) (h : PRow w B v zs.length zs) (hB : B ≤ w.heap.size) (hl : zs.length ≤ 1000000) (hp : AskP g u p w0) (hw0 : w0.heap.size ≤ B) (hb0 : Below w0.heap.size w0 w) (eg : ∀ args w, (callFunc g args).run Tryd.prog w = .ok (.enter g args) w) :
    Calls Tryd.prog 40 #[v, .func (.func g) #[] #[u]] w (RowOut w B (zs.filter (fun z => !p z))) := by
  obtain ⟨A, c, rfl, hcap, hA, hrd⟩ := h.rd
  have CI := Lib.hid (indexP_any A c zs g u p w hrd hl (hp.below hb0) eg)
  have HP := Lib.hid hp
  have HRow := Lib.hid h
  clear hp h hrd
  go_enter Tryd.func40, Tryd.ntmps40
  go_wp2_with fail
  refine CI.out.mono ?_
  rintro e w1 ⟨⟨r, rfl, hr⟩, b1⟩
  have hrow1 := PRow.below HRow.out b1 (Nat.le_refl _)
  have hbw1 : Below B w w1 := b1.mono hB
  have HRow1 := Lib.hid hrow1
  clear hrow1
  rcases hr with ⟨rfl, hno⟩ | ⟨i, hi, rfl, hyes, hbef⟩
  · have hout : zs.filter (fun z => !p z) = zs := filter_none zs p hno
    have HO := Lib.hid hout
    clear hout hno
    go_wp2_with fail
    go_ret
    exact ⟨_, rfl, by rw [HO.out]; exact HRow1.out, hbw1⟩
  · have hah := filter_ahead zs p i hi hyes hbef
    rcases HRow1.out.forms with ⟨hx, h0⟩ | ⟨gb, cap, hx, hBg, hgs, hcap2⟩
    · rw [h0] at hi; simp at hi
    · simp only [Value.slice.injEq, true_and] at hx
      obtain ⟨rfl, rfl⟩ := hx
      have HAh := Lib.hid hah
      have hne : ((i : Int) == -1) = false   := by simp
      clear hah hyes hbef
      go_wp2_with fail
      go_loopw [5, 6] (fun x y wr => ∃ (i j : Nat) (L : List Prop4), x = .int .i64 (i : Nat) ∧ y = .int .i64 (j : Nat) ∧ i < j ∧ j ≤ zs.length ∧ L.length = zs.length ∧ L.take i = (zs.take j).filter (fun z => !p z) ∧ L.drop j = zs.drop j ∧ PRow wr B (.slice (some ⟨gb, 0, none⟩) zs.length c) zs.length L ∧ Below w0.heap.size w0 wr ∧ Below B w wr) (fun _ y _ => zs.length - (intOf y).toNat)
      case atStart => exact ⟨i, i + 1, zs, rfl, by go_num, by omega, by omega, rfl, HAh.out.symm, rfl, HRow1.out, btV hb0 b1, hbw1⟩
      case round =>
        obtain ⟨i, j, L, rfl, rfl, hij, hj, hLl, htk, hdr, hrow, hbz, hbw⟩ := hrel
        have hBs : B ≤ wr.heap.size := Nat.le_trans hB hbw.size
        have hgr : gb < wr.heap.size := by
          have := World.ownsRow.lt hrow gb rfl
          exact this.2
        by_cases hlt : j < zs.length
        · have hgd := getD_drop L zs j hdr hlt hLl
          have htz := take_succ_getD zs j hlt
          obtain ⟨⟨c0, c1, c2, c3⟩, f0, f1, f2, f3⟩ := hrow.at (k := j) (by omega)
          rw [hgd] at c0 c1 c2 c3
          obtain ⟨z, hzj⟩ : ∃ z, zs.getD j Prop4.no = z := ⟨_, rfl⟩
          rw [hzj] at c0 c1 c2 c3 htz
          clear hzj hgd
          obtain ⟨a, k, n, s⟩ := z
          dsimp only at c0 c1 c2 c3
          have hdr1 : L.drop (j + 1) = zs.drop (j + 1) := by
            have := congrArg (List.drop 1) hdr
            rwa [List.drop_drop, List.drop_drop] at this
          have hb1 : Below w0.heap.size w0 (wr.alloc (.cells #[.string a, .int .i64 k, .int .i64 n, .string s] 41)) := hbz.alloc hbz.size _
          have cR := HP.out _ a k n s hb1
          have hH := HoldP.new wr a k n s
          have HH := Lib.hid hH
          obtain ⟨⟨x0, x1, x2, x3⟩, _⟩ := hH.at
          obtain ⟨b, hbb⟩ : ∃ b, p (a, k, n, s) = b := ⟨_, rfl⟩
          rw [hbb] at cR
          have HB := Lib.hid hbb
          have CR := Lib.hid cR
          have HRow2 := Lib.hid hrow
          have HTk := Lib.hid htk
          have HTz := Lib.hid htz
          have HDr1 := Lib.hid hdr1
          clear cR hbb hrow htk htz hdr hdr1 hH f0 f1 f2 f3
          cases b
          · have hnx : (L.set i (a, k, n, s)).take (i + 1) = (zs.take (j + 1)).filter (fun z => !p z) := by
              rw [take_set L i _ (by omega), HTk.out, HTz.out, List.filter_append, List.filter_cons, HB.out]
              rfl
            have HNx := Lib.hid hnx
            clear hnx
            go_wp2_with (go_at_fn g; refine CR.out.mono ?_; rintro e w2 ⟨rfl, b2⟩; have hs2 := b2.size; rw [show (wr.alloc (.cells #[.string a, .int .i64 k, .int .i64 n, .string s] 41)).heap.size = wr.heap.size + 1 from by simp] at hs2; have hrow2 := PRow.below (PRow.alloc' HRow2.out _) b2 (Nat.le_refl _); have HR2 := Lib.hid hrow2; obtain ⟨⟨y0, y1, y2, y3⟩, _⟩ := (HH.out.below b2 (by simp)).at; obtain ⟨⟨d0, d1, d2, d3⟩, e0, e1, e2, e3⟩ := hrow2.at (k := i) (by omega); clear hrow2 x0 x1 x2 x3)
            go_roundw
            case rel =>
              refine ⟨i + 1, j + 1, L.set i (a, k, n, s), by go_num, by go_num, by omega, by omega, by rw [List.length_set]; exact hLl, HNx.out, by rw [drop_set _ _ _ _ (by omega)]; exact HDr1.out, ?_, ?_, ?_⟩
              · exact PRow.put HR2.out i (a, k, n, s)
              · have h1 : Below w0.heap.size w0 w2 := hb1.trans (b2.mono (by simp; have := hbz.size; omega))
                exact (((h1.setCell (p := ⟨gb, i * 4, none⟩) (by show w0.heap.size ≤ gb; omega) _).setCell (p := ⟨gb, i * 4 + 1, none⟩) (by show w0.heap.size ≤ gb; omega) _).setCell (p := ⟨gb, i * 4 + 2, none⟩) (by show w0.heap.size ≤ gb; omega) _).setCell (p := ⟨gb, i * 4 + 3, none⟩) (by show w0.heap.size ≤ gb; omega) _
              · have h1 : Below B w w2 := (hbw.alloc hBs _).trans (b2.mono (by simp; omega))
                exact (((h1.setCell (p := ⟨gb, i * 4, none⟩) hBg _).setCell (p := ⟨gb, i * 4 + 1, none⟩) hBg _).setCell (p := ⟨gb, i * 4 + 2, none⟩) hBg _).setCell (p := ⟨gb, i * 4 + 3, none⟩) hBg _
            case measure => simp [intOf]; omega
          · have hnx : L.take i = (zs.take (j + 1)).filter (fun z => !p z) := by
              rw [HTk.out, HTz.out, List.filter_append, List.filter_cons, HB.out, List.filter_nil]
              simp
            have HNx := Lib.hid hnx
            clear hnx
            go_wp2_with (go_at_fn g; refine CR.out.mono ?_; rintro e w2 ⟨rfl, b2⟩)
            go_roundw
            case rel =>
              refine ⟨i, j + 1, L, rfl, by go_num, by omega, by omega, hLl, HNx.out, HDr1.out, PRow.below (PRow.alloc' HRow2.out _) b2 (Nat.le_refl _), hb1.trans (b2.mono (by simp; have := hbz.size; omega)), (hbw.alloc hBs _).trans (b2.mono (by simp; omega))⟩
            case measure => simp [intOf]; omega
        · obtain rfl : j = zs.length := by omega
          have h0 := hrow
          unfold PRow at h0
          obtain ⟨hfl, h1⟩ := h0
          rcases h1 with ⟨hx, _⟩ | ⟨g', cap', cur, hx, _, hg, hnc, hcm, hcs, htkc⟩
          · cases hx
          simp only [Value.slice.injEq, Option.some.injEq, Addr.mk.injEq, and_true, true_and] at hx
          obtain ⟨rfl, rfl⟩ := hx
          have hcurl : cur.toList.length = c * 4 := by rw [← hcs]; simp
          obtain ⟨vs, hvl, hclr⟩ := run_clear4 wr gb (i * 4) (zs.length - i) cur.toList 41 hg (by omega) (by rw [hcurl]; omega)
          have hfin : L.take i = zs.filter (fun z => !p z) := by rw [htk, List.take_of_length_le (Nat.le_refl _)]
          have hgN := setRow_heap wr gb _ (splice cur.toList (i * 4) vs).toArray _ _ hg
          have hbN := below_setRow hbw hBg (splice cur.toList (i * 4) vs).toArray
          have hspl : (splice cur.toList (i * 4) vs).length = c * 4 := by rw [length_splice _ _ _ (by rw [hcurl, hvl]; omega), hcurl]
          have htk4 : (splice cur.toList (i * 4) vs).take (i * 4) = (L.take i).flatMap cellsP := by
            have e1 : (splice cur.toList (i * 4) vs).take (i * 4) = cur.toList.take (i * 4) := by
              unfold splice
              have hl4 : (cur.toList.take (i * 4)).length = i * 4 := by rw [List.length_take, hcurl]; omega
              have := take_lenL (cur.toList.take (i * 4)) (vs ++ cur.toList.drop (i * 4 + vs.length))
              rwa [hl4] at this
            have e2 : cur.toList.take (i * 4) = (L.flatMap cellsP).take (i * 4) := by rw [← htkc, List.take_take, Nat.min_eq_left (by omega)]
            have e3 : (L.flatMap cellsP).take (i * 4) = (L.take i).flatMap cellsP := by
              rw [← cellsP_cut L i]
              have hl4 : ((L.take i).flatMap cellsP).length = i * 4 := by rw [cellsP_len, List.length_take]; omega
              have := take_lenL ((L.take i).flatMap cellsP) ((L.drop i).flatMap cellsP)
              rwa [hl4] at this
            rw [e1, e2, e3]
          obtain ⟨w3, hw3⟩ : ∃ w3, wr.setRow gb (splice cur.toList (i * 4) vs).toArray = w3 := ⟨_, rfl⟩
          rw [hw3] at hclr hgN hbN
          have hlen : (zs.filter (fun z => !p z)).length = i := by rw [← hfin, List.length_take]; omega
          have HGN := Lib.hid hgN
          have HLen := Lib.hid hlen
          have HFin := Lib.hid hfin
          have HTk4 := Lib.hid htk4
          have HSpl := Lib.hid hspl
          have hic : ¬ (c = i) := by omega
          clear hw3 hgN hlen hfin htk4 hspl hfl hg hcs htkc htk hdr hcurl hvl hrow
          go_wp2_with fail
          go_ret
          refine ⟨_, rfl, ?_, hbN⟩
          unfold PRow
          rw [HLen.out, ← HFin.out]
          refine ⟨by rw [cellsP_len, List.length_take]; omega, .inr ⟨gb, c, _, rfl, hBg, HGN.out, by omega, hcm, ?_, ?_⟩⟩
          · rw [List.size_toArray]; exact HSpl.out
          · exact HTk4.out
end Go.Proofs.YtgacphpkgaobkaaDoor
