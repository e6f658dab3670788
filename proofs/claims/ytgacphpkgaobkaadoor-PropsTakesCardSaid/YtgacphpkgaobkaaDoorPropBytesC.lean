/- A list's bytes: the code's own Bytes. -/
import Derived.Test.YtgacphpkgaobkaaDoorPropDropC2
import Derived.Test.YtgacphpkgaobkaaDoorPropBytes
import Derived.Test.YtgacphpkgaobkaaDoorValTold
import Derived.Deep.AppendLies
set_option linter.unusedVariables false
namespace Go.Proofs.YtgacphpkgaobkaaDoor
open Go Go.RowKit

def PBytesPost (w : World) (zs : List Prop4) (e : Ending) (w' : World) : Prop :=
  ∃ v, e = .returned (.tuple #[v, .int .i64 (if rightP zs then 0 else 2)]) ∧ URow w' w.heap.size v (if rightP zs then propsB zs else []).length (if rightP zs then propsB zs else []) ∧ Below w.heap.size w w'

set_option maxHeartbeats 4000000 in
set_option maxRecDepth 100000 in
theorem propsBytes_any (A : Option Addr) (c : Nat) (zs : List Prop4) (w : World) (h : RdP w A zs) (hl : zs.length ≤ 1000) (hsm : ∀ z ∈ zs, SmallP z) (hT : Tabs w) :
    Calls Tryd.prog 23 #[.slice A zs.length c] w (PBytesPost w zs) := by
  obtain ⟨i0, hi, hz0, hz1, hz2⟩ := info_parts byte_infoV
  have CR := Lib.hid (propsRight_any A c zs w h (fun k hk => Nat.le_trans (hsm (zs.getD k Prop4.no) (by rw [List.getD_eq_getElem?_getD, List.getElem?_eq_getElem hk]; exact List.getElem_mem hk)).1 (by decide)) (by omega) hT)
  have HRd := Lib.hid h
  have HSm := Lib.hid hsm
  clear h hsm hT
  obtain ⟨br, hbr⟩ : ∃ b, rightP zs = b := ⟨_, rfl⟩
  rw [hbr] at CR
  have HBr := Lib.hid hbr
  clear hbr
  cases br
  · go_enter Tryd.func23, Tryd.ntmps23
    go_wp2_with fail
    refine CR.out.mono ?_
    rintro e w1 ⟨rfl, b1⟩
    go_wp2_with fail
    exact bodyPost_ret (v := .tuple #[.slice none 0 0, .int .i64 2]) (by simp [results, Tryd.results23, go_sem]) rfl ⟨_, by rw [HBr.out]; rfl, by rw [HBr.out]; exact World.ownsRow_nil _ _ _ _, b1⟩
  · have hri := (rightP_iff zs).1 HBr.out
    have hl16 := hri.1
    have HOk := Lib.hid hri.2.1
    clear hri
    have hc0 := u8v_ofNat zs.length
    have hcm : (zs.length : Int) % 256 = (zs.length : Int) := by omega
    rw [hcm] at hc0
    have HC0 := Lib.hid hc0
    clear hc0 hcm
    go_enter Tryd.func23, Tryd.ntmps23
    go_wp2_with fail
    refine CR.out.mono ?_
    rintro e w1 ⟨rfl, b1⟩
    have hs1 := b1.size
    go_wp2_with fail
    go_loopw [4, 18] (fun x i wr => ∃ (j L : Nat) (v : Value), v = x ∧ i = .int .i64 (j : Nat) ∧ j ≤ zs.length ∧ L ≤ 1 + 4000 * j ∧ URow wr w.heap.size v L (UInt8.ofNat zs.length :: propsL (zs.take j)) ∧ Below w.heap.size w wr) (fun _ i _ => zs.length - (intOf i).toNat)
    case atStart => exact ⟨0, 1, _, rfl, rfl, by omega, by omega, by unfold URow; rw [List.map_cons, HC0.out]; exact World.ownsRow_lit (base := w.heap.size) (e := 5) (size := 1) w1 #[.int .u8 (zs.length : Int)] 1 hs1 (by decide) rfl, b1.alloc hs1 _⟩
    case round =>
      obtain ⟨j, L, v, rfl, rfl, hj, hL, hrow, hbw⟩ := hrel
      have hbs := hbw.size
      by_cases hlt : j < zs.length
      · obtain ⟨ad, rfl, hblk, g0, g1, g2, g3⟩ := (HRd.out.below (Nat.le_refl _) hbw).at4 hlt
        have htk := take_succ_getD zs j hlt
        have hmem : zs.getD j Prop4.no ∈ zs := by rw [List.getD_eq_getElem?_getD, List.getElem?_eq_getElem hlt]; exact List.getElem_mem hlt
        have hsz := HSm.out _ hmem
        have hok := (HOk.out _ hmem).2
        obtain ⟨⟨key, k, n, s⟩, hz⟩ : ∃ z, zs.getD j Prop4.no = z := ⟨_, rfl⟩
        rw [hz] at g0 g1 g2 g3 htk hsz hok
        obtain ⟨z1, ⟨z2, z3⟩, z4⟩ := hsz
        simp only [] at z1 z2 z3 z4
        have hok' : rightV k n s = true := hok
        have hcs := u8v_ofNat key.size
        have HCs := Lib.hid hcs
        have hbs2 : propsL (zs.take (j + 1)) = propsL (zs.take j) ++ ([UInt8.ofNat key.size] ++ key.data.toList ++ bytesV k n s) := by rw [htk, propsL_append]; simp [propsL, propB]
        have hbl := bytesV_len k n s z4
        have hbp := bytesV_pos k n s
        have hH := HoldP.new wr key k n s
        have HH := Lib.hid hH
        obtain ⟨⟨x0, x1, x2, x3⟩, _⟩ := hH.at
        have hrb := fun W => valBytes_any k n s W z2 z3
        have hR : bytesR k n s = bytesV k n s := by unfold bytesR; rw [hok']; rfl
        have hE : thingE k n s = 0 := by unfold thingE; rw [hok']; rfl
        unfold ValBytesPost valV at hrb
        rw [hR, hE] at hrb
        generalize bytesV k n s = bk at *
        obtain ⟨lk, hlk⟩ : ∃ l, bk.length = l := ⟨_, rfl⟩
        rw [hlk] at hbl hbp hrb
        have HRb := Lib.hid hrb; have HBs := Lib.hid hbs2; have HLk := Lib.hid hlk
        have HLt := Lib.hid (World.ownsRow.lt hrow)
        have HRow := Lib.hid hrow
        clear hcs hbs2 hrb hlk htk hmem hz hok hok' hR hE hH hrow
        go_wp2_with fail
        refine (HRb.out _).mono ?_
        rintro e w3 ⟨vx, rfl, hv3, b3⟩
        have hs3 := b3.size
        rw [show (wr.alloc (.cells #[.string key, .int .i64 k, .int .i64 n, .string s] 41)).heap.size = wr.heap.size + 1 from by simp] at hs3
        have hbw3 : Below w.heap.size w w3 := (hbw.alloc hbs _).trans (b3.mono (by simp; omega))
        obtain ⟨gx, cx, rfl⟩ := URow.form hv3 hbp
        have hgx := World.ownsRow.lt hv3 gx rfl
        rw [show (wr.alloc (.cells #[.string key, .int .i64 k, .int .i64 n, .string s] 41)).heap.size = wr.heap.size + 1 from by simp] at hgx
        have HV3 := Lib.hid hv3
        have h3 := HH.out.below b3 (by simp)
        have HH3 := Lib.hid h3
        have hrow3 : URow w3 w.heap.size v L (UInt8.ofNat zs.length :: propsL (zs.take j)) := URow.belowP (HRow.out.alloc _) b3
        have HRow3 := Lib.hid hrow3
        clear x0 x1 x2 x3 hv3 hrow3
        obtain ⟨⟨x0, x1, x2, x3⟩, _⟩ := h3.at
        clear h3
        go_wp2_with (at_builtin; refine wpList_append_lies _ rfl _ _ 43 rfl w.heap.size 5 i0 (.int .u8 0) 1 1 Tryd.underlying43 hi hz0 hz1 hz2 rfl (by decide) _ _ _ rfl (HRow3.out.alloc _) ⟨w3.heap.size, 0, none⟩ 1 1 [.int .u8 ((key.size : Int) % 256)] rfl rfl ?a4 ?b4 (by decide) ?c4 ?d4 ?e4 (w3.heap.size + 1) (by simp) ?_)
        try (case a4 => exact (World.ownsRow_lit (base := w3.heap.size) (e := 5) (size := 1) w3 #[.int .u8 ((key.size : Int) % 256)] 1 (Nat.le_refl _) (by decide) rfl).cells rfl)
        try (case b4 => intro u' hu'; obtain rfl := List.mem_singleton.1 hu'; rfl)
        try (case c4 => unfold maxLen; omega)
        try (case d4 => omega)
        try (case e4 => simp; omega)
        intro g4 cap4 w4 hown4 hgrow4 hwhere hlt4
        have hv4 : Below w.heap.size w w4 := (hbw3.alloc (by omega) _).grown hgrow4 (by simp; omega) (fun k' hk' => (HLt.out k' hk').1)
        have hs4 := hgrow4.size
        rw [show (w3.alloc (.cells #[.int .u8 ((key.size : Int) % 256)] 5)).heap.size = w3.heap.size + 1 from by simp] at hs4
        have hfar : ∀ m, wr.heap.size ≤ m → m < w3.heap.size → w4.heap[m]? = w3.heap[m]? := fun m hm1 hm2 => (hgrow4.block m (by simp; omega) (fun e => by have := (HLt.out m e.symm).2; omega)).trans (Lib.alloc_old w3 _ m hm2)
        have hg4 : g4 < wr.heap.size ∨ g4 = w3.heap.size + 1 := by
          rcases hwhere with h | h
          · exact .inl (HLt.out g4 h).2
          · exact .inr h
        have h4 : URow w4 w.heap.size (.slice (some ⟨g4, 0, none⟩) (L + 1) cap4) (L + 1) ((UInt8.ofNat zs.length :: propsL (zs.take j)) ++ [UInt8.ofNat key.size]) := by
          unfold URow
          rw [List.map_append, show [UInt8.ofNat key.size].map u8v = [Value.int .u8 ((key.size : Int) % 256)] from by rw [List.map_cons, HCs.out]; rfl]
          exact hown4
        have HH4 : Hid (HoldP w4 wr.heap.size (key, k, n, s)) := Lib.hid (HH3.out.block (hfar wr.heap.size (Nat.le_refl _) (by omega)))
        have hgx4 : w4.heap[gx]? = w3.heap[gx]? := hfar gx (by omega) hgx.2
        have H4 := Lib.hid h4
        clear x0 x1 x2 x3 hown4 hgrow4 hwhere h4 hfar
        obtain ⟨⟨x0, x1, x2, x3⟩, _⟩ := HH4.out.at
        go_wp2_with (at_builtin; refine Lib.wpList_append_own_string _ rfl _ _ 43 9 rfl w.heap.size 5 i0 Tryd.underlying43 Tryd.underlying9 hi hz0 hz1 hz2 _ (L + 1) _ rfl H4.out key rfl ?c5 ?d5 ?e5 ?_)
        try (case c5 => unfold maxLen; omega)
        try (case d5 => omega)
        try (case e5 => omega)
        intro v5 w5 hown5 hgrow5 _
        have hbw5 : Below w.heap.size w w5 := hv4.grown hgrow5 (by omega) (fun k' hk' => (World.ownsRow.lt H4.out k' hk').1)
        have hs5 := hgrow5.size
        have h5 : URow w5 w.heap.size v5 (L + 1 + key.size) ((UInt8.ofNat zs.length :: propsL (zs.take j)) ++ [UInt8.ofNat key.size] ++ key.data.toList) := by
          unfold URow
          simp only [List.map_append, List.map_cons, strCells_u8, List.append_assoc, List.cons_append, List.nil_append] at hown5 ⊢
          exact hown5
        have hgx5 : w5.heap[gx]? = w3.heap[gx]? := (hgrow5.block gx (by omega) (fun e => by simp only [Value.ownBlock, Option.some.injEq] at e; omega)).trans hgx4
        have hcx : ∀ j u, (bk.map u8v)[j]? = some u → w5.cell? ((⟨gx, 0, none⟩ : Addr).add j) = some u := fun j u hu => by
          have := World.ownsRow.cells HV3.out rfl j u hu
          exact (World.cell?_of_block (w := w3) (w' := w5) (a := (⟨gx, 0, none⟩ : Addr).add j) (by rw [add_block]; exact hgx5)).trans this
        have H5 := Lib.hid h5
        have HCx := Lib.hid hcx
        clear hown5 hgrow5 h5 hcx hgx4 hgx5
        go_wp2_with (at_builtin; refine wpList_append_own _ rfl _ _ 43 rfl w.heap.size 5 i0 (.int .u8 0) 1 1 Tryd.underlying43 hi hz0 hz1 hz2 rfl (by decide) _ _ _ rfl H5.out ⟨gx, 0, none⟩ lk cx (bk.map u8v) rfl ?l7 ?a7 ?b7 ?c7 ?d7 ?e7 ?_)
        try (case l7 => rw [List.length_map, Nat.mul_one, HLk.out])
        try (case a7 => exact HCx.out)
        try (case b7 => exact u8v_one _)
        try (case c7 => unfold maxLen; omega)
        try (case d7 => omega)
        try (case e7 => omega)
        intro v7 w7 hown7 hgrow7 _
        have hbw7 : Below w.heap.size w w7 := hbw5.grown hgrow7 (by omega) (fun k' hk' => (World.ownsRow.lt H5.out k' hk').1)
        go_wp2_with fail
        go_roundw
        case rel =>
          refine ⟨j + 1, L + 1 + key.size + lk, v7, rfl, by go_num, by omega, by omega, ?_, hbw7⟩
          unfold URow
          rw [HBs.out]
          simp only [List.map_append, List.map_cons, List.cons_append, List.nil_append] at hown7 ⊢
          exact hown7
        case measure => simp [intOf]; omega
      · obtain rfl : j = zs.length := by omega
        have htf : zs.take zs.length = zs := List.take_of_length_le (Nat.le_refl _)
        rw [htf] at hrow
        have hlen : (propsB zs).length = L := by
          have := hrow.1
          rw [List.length_map, Nat.mul_one] at this
          exact this
        rcases URow.forms hrow with ⟨rfl, h0⟩ | ⟨g, cap, rfl⟩
        · have : 0 < L := by rw [← hlen]; exact Nat.succ_pos _
          omega
        have HRow := Lib.hid hrow
        have HLen := Lib.hid hlen
        clear hrow hlen
        go_wp2_with fail
        exact bodyPost_ret (v := .tuple #[.slice (some ⟨g, 0, none⟩) L cap, .int .i64 0]) (by simp [results, Tryd.results23, go_sem]) rfl ⟨_, by rw [HBr.out]; rfl, by rw [HBr.out, if_pos rfl, HLen.out]; exact HRow.out, hbw⟩
end Go.Proofs.YtgacphpkgaobkaaDoor
