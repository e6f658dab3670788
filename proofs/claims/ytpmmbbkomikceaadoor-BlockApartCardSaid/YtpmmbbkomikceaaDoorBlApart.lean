/- Two blocks that came in by value, in boxes of the call's own; slices of them; how a block by value comes in. -/
import Derived.Test.YtpmmbbkomikceaaDoorOpenL
import Derived.Test.YtpmmbbkomikceaaDoorBlAwake
import Derived.Test.YtpmmbbkomikceaaDoorBlMath
import Derived.Test.YtpmmbbkomikceaaDoorNum
import Derived.Test.YtpmmbbkomikceaaDoorStrG
import Derived.Lib.SmallJoins
set_option linter.unusedVariables false
namespace Go.Proofs.YtpmmbbkomikceaaDoor
open Go Go.RowKit Go.WideShapes Go.ChangeShapes

set_option maxRecDepth 100000 in
theorem open_blkV {H : Type} {enc : TypeId × Value → H} {w : World} {base : Nat} {spare : Nat → Bool} {held : Bool} {r : Reach} {b0 : Nat} {v : Value} {d : DataW H} {p : List MemPlace}
    (hv : Value.okWide Tryd.prog w r b0 40 v) (h : DataW.Trod enc Tryd.prog w base spare held 40 v d p) : ∃ z : BlZ, v = z.val ∧ z.body.ok w := by
  obtain ⟨v0, v1, y0, y1, m, rfl, rfl, rfl, h0, h1⟩ := Go.Joins.open_agg2 Tryd.underlying40 (by kernel_rfl) (by kernel_rfl) hv h
  obtain ⟨n, e0, _, wf⟩ := DataW.trod_int Tryd.underlying5 h0
  obtain ⟨a, l, c, zs, e1, rfl, hz2, hz3⟩ := open_bs h1
  obtain rfl : v0 = .int .u8 n := by simpa using e0
  obtain rfl : v1 = .slice a zs.length c := by simpa using e1
  have hb : 0 ≤ n ∧ n < 256 := by
    simp [Lit.wf, IntKind.min, IntKind.max, IntKind.bits, IntKind.signed] at wf
    omega
  refine ⟨⟨UInt8.ofNat n.toNat, a, c, zs⟩, ?_, hz2, hz3⟩
  have : ((UInt8.ofNat n.toNat).toNat : Int) = n := by
    rw [UInt8.toNat_ofNat', Nat.mod_eq_of_lt (by omega)]
    omega
  show Value.agg #[.int .u8 n, _] = Value.agg #[.int .u8 ((UInt8.ofNat n.toNat).toNat : Int), _]
  rw [this]
  rfl

/-- Two boxes, made first of all. -/
structure TwoL (w W : World) (z0 z1 : BlZ) : Prop where
  k0 : layL.Rd W (some ⟨w.heap.size, 0, none⟩) [z0]
  k1 : layL.Rd W (some ⟨w.heap.size + 1, 0, none⟩) [z1]
  o0 : z0.body.ok W
  o1 : z1.body.ok W
  bel : Below w.heap.size w W
section
variable {w W W' : World} {z0 z1 : BlZ}
theorem TwoL.below (h : TwoL w W z0 z1) (hb : Below W.heap.size W W') : TwoL w W' z0 z1 :=
  ⟨h.k0.below (Nat.le_refl _) hb, h.k1.below (Nat.le_refl _) hb, h.o0.below (Nat.le_refl _) hb, h.o1.below (Nat.le_refl _) hb, h.bel.trans (hb.mono h.bel.size)⟩
theorem TwoL.alloc (h : TwoL w W z0 z1) (o : Obj) : TwoL w (W.alloc o) z0 z1 := h.below ((Below.refl _ _).alloc (Nat.le_refl _) o)
theorem TwoL.drew (h : TwoL w W z0 z1) : TwoL w W.drew z0 z1 := h.below (Below.refl _ _).drew
theorem TwoL.cells (h : TwoL w W z0 z1) : W.cell? { block := w.heap.size, off := 0 } = some (.int .u8 (z0.kind.toNat : Int)) ∧ W.cell? { block := w.heap.size, off := 1 } = some (.slice z0.body.adr z0.body.bs.length z0.body.cap) ∧
    W.cell? { block := w.heap.size + 1, off := 0 } = some (.int .u8 (z1.kind.toNat : Int)) ∧ W.cell? { block := w.heap.size + 1, off := 1 } = some (.slice z1.body.adr z1.body.bs.length z1.body.cap) :=
  ⟨h.k0.news 0 _ rfl, h.k0.news 1 _ rfl, h.k1.news 0 _ rfl, h.k1.news 1 _ rfl⟩
theorem TwoL.made (w : World) (z0 z1 : BlZ) (h0 : z0.body.ok w) (h1 : z1.body.ok w) :
    TwoL w ((w.alloc (.cells #[.int .u8 (z0.kind.toNat : Int), .slice z0.body.adr z0.body.bs.length z0.body.cap] 40)).alloc (.cells #[.int .u8 (z1.kind.toNat : Int), .slice z1.body.adr z1.body.bs.length z1.body.cap] 40)) z0 z1 := by
  have e1 := (Below.refl w.heap.size w).alloc (Nat.le_refl _) (.cells #[.int .u8 (z0.kind.toNat : Int), .slice z0.body.adr z0.body.bs.length z0.body.cap] 40)
  have e2 := e1.alloc e1.size (.cells #[.int .u8 (z1.kind.toNat : Int), .slice z1.body.adr z1.body.bs.length z1.body.cap] 40)
  have r0 : layL.Rd (w.alloc (.cells #[.int .u8 (z0.kind.toNat : Int), .slice z0.body.adr z0.body.bs.length z0.body.cap] 40)) (some ⟨w.heap.size, 0, none⟩) [z0] := LayG.Rd.lit w _ _ rfl (by show 1 ≤ maxLen; decide)
  have r1 := LayG.Rd.lit (L := layL) (E := 40) (w.alloc (.cells #[.int .u8 (z0.kind.toNat : Int), .slice z0.body.adr z0.body.bs.length z0.body.cap] 40)) #[.int .u8 (z1.kind.toNat : Int), .slice z1.body.adr z1.body.bs.length z1.body.cap] [z1] rfl (by show 1 ≤ maxLen; decide)
  rw [show (w.alloc (.cells #[.int .u8 (z0.kind.toNat : Int), .slice z0.body.adr z0.body.bs.length z0.body.cap] 40)).heap.size = w.heap.size + 1 from Array.size_push _] at r1
  exact ⟨r0.below (Nat.le_refl _) ((Below.refl _ _).alloc (Nat.le_refl _) _), r1, h0.below (Nat.le_refl _) e2, h1.below (Nat.le_refl _) e2, e2⟩
theorem TwoL.lit0 (h : TwoL w W z0 z1) : RdL (W.alloc (.cells #[.int .u8 (z0.kind.toNat : Int), .slice z0.body.adr z0.body.bs.length z0.body.cap] 40)) (some ⟨W.heap.size, 0, none⟩) [z0] :=
  ⟨LayG.Rd.lit W _ _ rfl (by show 1 ≤ maxLen; decide), fun z hz => by rw [List.mem_singleton.1 hz]; exact (h.alloc _).o0⟩
theorem TwoL.lit1 (h : TwoL w W z0 z1) : RdL (W.alloc (.cells #[.int .u8 (z1.kind.toNat : Int), .slice z1.body.adr z1.body.bs.length z1.body.cap] 40)) (some ⟨W.heap.size, 0, none⟩) [z1] :=
  ⟨LayG.Rd.lit W _ _ rfl (by show 1 ≤ maxLen; decide), fun z hz => by rw [List.mem_singleton.1 hz]; exact (h.alloc _).o1⟩
theorem TwoL.lit2 (h : TwoL w W z0 z1) : RdL (W.alloc (.cells #[.int .u8 (z0.kind.toNat : Int), .slice z0.body.adr z0.body.bs.length z0.body.cap, .int .u8 (z1.kind.toNat : Int), .slice z1.body.adr z1.body.bs.length z1.body.cap] 40)) (some ⟨W.heap.size, 0, none⟩) [z0, z1] :=
  ⟨LayG.Rd.lit W _ _ rfl (by show 2 ≤ maxLen; decide), fun z hz => by
    rcases List.mem_cons.1 hz with rfl | hz
    · exact (h.alloc _).o0
    · rw [List.mem_singleton.1 hz]; exact (h.alloc _).o1⟩
end
theorem allR_two (z0 z1 : BlZ) : allR [z0, z1] = allR [z0] ++ allR [z1] := by simp [allR]
/-- Which of two blocks are alike: their bytes tell, as far as both go. -/
theorem apart_iff {z0 z1 : BlZ} (h0 : z0.body.bs.length ≤ 500) (h1 : z1.body.bs.length ≤ 500) {n : Nat} (hn : n = min (allR [z0]).length (allR [z1]).length) :
    ((allR [z0]).take n = (allR [z1]).take n) ↔ pairL z0 = pairL z1 := by
  rw [allR_one, allR_one] at *
  constructor
  · intro e
    rcases Nat.le_total (packR z0.kind z0.body.bs).length (packR z1.kind z1.body.bs).length with h | h
    · have e2 : packR z0.kind z0.body.bs ++ (packR z1.kind z1.body.bs).drop n = packR z1.kind z1.body.bs ++ [] := by
        have e3 : (packR z0.kind z0.body.bs).take n = packR z0.kind z0.body.bs := List.take_of_length_le (by omega)
        rw [e3] at e
        rw [e, List.take_append_drop, List.append_nil]
      exact pack_prefix (by omega) (by omega) e2
    · have e2 : packR z0.kind z0.body.bs ++ [] = packR z1.kind z1.body.bs ++ (packR z0.kind z0.body.bs).drop n := by
        have e3 : (packR z1.kind z1.body.bs).take n = packR z1.kind z1.body.bs := List.take_of_length_le (by omega)
        rw [e3] at e
        rw [← e, List.take_append_drop, List.append_nil]
      exact pack_prefix (by omega) (by omega) e2
  · intro e
    have e1 : z0.kind = z1.kind := (Prod.mk.inj e).1
    have e2 : z0.body.bs = z1.body.bs := (Prod.mk.inj e).2
    rw [e1, e2]
theorem same_beq {z0 z1 : BlZ} {px py : List UInt8} (hx : allR [z0] = px) (hy : allR [z1] = py) (h0 : z0.body.bs.length ≤ 500) (h1 : z1.body.bs.length ≤ 500) {n : Nat} (hn : n = min px.length py.length) {q : Bool}
    (hq : decide ([z0].map pairL = [z1].map pairL) = q) : (px.take n == py.take n) = q := by
  subst hx hy
  have ha := apart_iff h0 h1 hn
  by_cases e : pairL z0 = pairL z1
  · rw [ha.2 e, ← hq, decide_eq_true (by simpa using e)]
    exact beq_self_eq_true _
  · rw [beq_eq_false_iff_ne.2 (fun h => e (ha.1 h)), ← hq, decide_eq_false (by simpa using e)]
end Go.Proofs.YtpmmbbkomikceaaDoor
