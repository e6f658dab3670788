/- Rows and slices of bytes, as texts; slices of such slices. -/
import Derived.Test.YtpmmbbkomikceaaDoorRowG
import Derived.Test.YtpmmbbkomikceaaDoorNum
import Derived.Laws.IdiomStrings
import Derived.Lib.Hide
import Derived.Deep.Slices
import Derived.Deep.Strs
import Derived.ChangeSlices
set_option linter.unusedVariables false
namespace Go.Proofs.YtpmmbbkomikceaaDoor
open Go Go.RowKit Go.WideShapes Go.ChangeShapes

/-- Bytes. -/
def layB : LayG UInt8 := ⟨fun z => [.int .u8 (z.toNat : Int)], 1, by decide, fun _ => rfl, fun z u hu => by rw [List.mem_singleton.1 hu]; rfl⟩
theorem layB_flat (zs : List UInt8) : zs.flatMap layB.enc = zs.map (fun z => Value.int .u8 (z.toNat : Int)) := by
  induction zs with
  | nil => rfl
  | cons z r ih => rw [List.flatMap_cons, ih]; rfl
theorem layB_at {w : World} {A : Option Addr} {zs : List UInt8} (h : layB.Rd w A zs) {k : Nat} (hk : k < zs.length) : ∃ ad, A = some ad ∧ ad.block < w.heap.size ∧ w.cell? (ad.add k) = some (.int .u8 ((zs.getD k default).toNat : Int)) := by
  obtain ⟨ad, e, hb, h0⟩ := h k hk
  refine ⟨ad, e, hb, ?_⟩
  have := h0 0 _ rfl
  rwa [show k * layB.size + 0 = k from by show k * 1 + 0 = k; omega] at this
theorem typB : TypG Tryd.prog 24 5 layB := by
  refine ⟨by kernel_rfl, ?_⟩
  have h : (Tryd.prog.info? 5).map (fun i => (i.zero, i.size, i.bytes)) = some (some (.int .u8 0), 1, 1) := by kernel_rfl
  cases hi : Tryd.prog.info? 5 with
  | none => rw [hi] at h; cases h
  | some i =>
    rw [hi] at h
    simp only [Option.map_some, Option.some.injEq, Prod.mk.injEq] at h
    exact ⟨i, _, rfl, h.1, h.2.1, by rw [h.2.2]; decide, rfl⟩
/-- Bytes as a text. -/
theorem conv_rd {w : World} {A : Option Addr} {l c : Nat} {zs : List UInt8} (h : layB.Rd w A zs) (hl : zs.length = l) : (convert 24 9 (.slice A l c)).run Tryd.prog w = .ok (.string ⟨zs.toArray⟩) w := by
  subst hl
  cases A with
  | none =>
    have e := h.none_nil
    subst e
    rw [run_convert_bytes_string w 24 9 5 none _ c Tryd.underlying24 Tryd.underlying5 Tryd.underlying9]
    rfl
  | some ad =>
    refine run_convert_bytes_back (P := Tryd.prog) w 24 9 5 ad c zs Tryd.underlying24 Tryd.underlying5 Tryd.underlying9 (fun j hj => ?_)
    obtain ⟨ae, e, _, h0⟩ := layB_at h hj
    injection e with e
    subst e
    rw [h0, List.getD_eq_getElem?_getD, List.getElem?_eq_getElem hj]
    rfl
/-- 'b[K:]': where it lies. -/
def fromA (A : Option Addr) (c K : Nat) : Option Addr := if c = K then A else Option.map (fun x => x.add K) A
theorem slice_fromB (W : World) (A : Option Addr) (n c K : Nat) (h : K ≤ n) :
    (Instr.slice 24 (.slice A n c) (some (.int .i64 (K : Int))) none none).run Tryd.prog W = .ok (.slice (fromA A c K) (n - K) (c - K)) W := by
  have he : Tryd.prog.elem 24 = 5 := by kernel_rfl
  rw [run_slice_l (P := Tryd.prog) (w := W) 24 A n c (by rw [he]; exact Tryd.underlying24) .i64 (K : Int) (by omega) (by omega), he, Tryd.sizeOf5]
  simp [Result.andThen, sliced, fromA]
/-- 'b[:K]': the same place, so many. -/
theorem slice_toB (W : World) (A : Option Addr) (n c K : Nat) (h : K ≤ c) :
    (Instr.slice 24 (.slice A n c) none (some (.int .i64 (K : Int))) none).run Tryd.prog W = .ok (.slice A K c) W := by
  have he : Tryd.prog.elem 24 = 5 := by kernel_rfl
  rw [run_slice_h (P := Tryd.prog) (w := W) 24 A n c (by rw [he]; exact Tryd.underlying24) .i64 (K : Int) (by omega) (by omega), he, Tryd.sizeOf5]
  by_cases hc : c = 0
  · subst hc; simp [Result.andThen, sliced]
  · cases A <;> simp [Result.andThen, sliced, hc, Addr.add]
theorem rd_from {w : World} {A : Option Addr} {zs : List UInt8} (h : layB.Rd w A zs) {c K : Nat} (hc : zs.length ≤ c) (hK : K ≤ zs.length) : layB.Rd w (fromA A c K) (zs.drop K) := by
  unfold fromA
  split
  · next e =>
    rw [List.drop_eq_nil_of_le (by omega)]
    exact LayG.Rd.nothing _
  · cases A with
    | none =>
      have e := h.none_nil
      subst e
      rw [List.drop_nil]
      exact LayG.Rd.nothing _
    | some ad =>
      have := h.drop K
      rwa [show K * layB.size = K from by show K * 1 = K; omega] at this
/-- A cell of a row of bytes is written. -/
theorem layB_set {w : World} {B n c k : Nat} {E : TypeId} {g : Nat} {zs : List UInt8} (h : layB.Row E w B (.slice (some ⟨g, 0, none⟩) n c) n zs) (x : UInt8) :
    layB.Row E (w.setCell ⟨g, k, none⟩ (.int .u8 (x.toNat : Int))) B (.slice (some ⟨g, 0, none⟩) n c) n (zs.set k x) ∧ Only (fun b => b = g) w (w.setCell ⟨g, k, none⟩ (.int .u8 (x.toNat : Int))) := by
  obtain ⟨h1, h2⟩ := World.ownsRow.stored (size := layB.size) h k (.int .u8 (x.toNat : Int))
  refine ⟨?_, Only.setCell (S := fun b => b = g) (p := ⟨g, k, none⟩) (Only.refl _ w) (.inl rfl) _⟩
  unfold LayG.Row
  rw [layB_flat, List.map_set, ← layB_flat]
  exact h1
/-- A row cut to its first elements. -/
theorem LayG.Row.shrink {α : Type} {L : LayG α} {E : TypeId} {w : World} {B n m c : Nat} {A : Option Addr} {zs : List α} (h : L.Row E w B (.slice A n c) n zs) (hm : m ≤ n) (hA : A = none → m = 0 ∧ c = 0) : L.Row E w B (.slice A m c) m (zs.take m) := by
  have hl := h.len
  refine ⟨by rw [flat_len, List.length_take, Nat.min_eq_left (by omega)], ?_⟩
  rcases h.2 with ⟨hv, h0⟩ | ⟨g, cap, cur, hv, h2, h3, h4, h5, h6, h7⟩
  · injection hv with e1 e2 e3
    subst e1 e3
    exact .inl ⟨by rw [(hA rfl).1], (hA rfl).1⟩
  · injection hv with e1 e2 e3
    subst e1 e3
    refine .inr ⟨g, c, cur, rfl, h2, h3, by omega, h5, h6, ?_⟩
    have key : ∀ (l : List α) (k : Nat), (l.take k).flatMap L.enc = (l.flatMap L.enc).take (k * L.size) := by
      intro l
      induction l with
      | nil => intro k; simp
      | cons z r ih =>
        intro k
        cases k with
        | zero => simp
        | succ k => rw [List.take_succ_cons, List.flatMap_cons, List.flatMap_cons, ih, Nat.add_mul, Nat.one_mul, Nat.add_comm (k * L.size) L.size, List.take_append, List.take_of_length_le (l := L.enc z) (by rw [L.len]; omega), L.len, Nat.add_sub_cancel_left]
    rw [key, ← h7, List.take_take, Nat.min_eq_left (Nat.mul_le_mul_right _ hm)]
/-- A slice of bytes, as a value: where it lies, its spare room, the bytes. -/
structure BsZ where
  adr : Option Addr
  cap : Nat
  bs : List UInt8
def BsZ.no : BsZ := ⟨none, 0, []⟩
instance : Inhabited BsZ := ⟨BsZ.no⟩
def BsZ.val (z : BsZ) : Value := .slice z.adr z.bs.length z.cap
def BsZ.ok (w : World) (z : BsZ) : Prop := z.bs.length ≤ z.cap ∧ layB.Rd w z.adr z.bs
theorem BsZ.ok.below {w w' : World} {z : BsZ} {B : Nat} (h : z.ok w) (hB : w.heap.size ≤ B) (hb : Below B w w') : z.ok w' := ⟨h.1, h.2.below hB hb⟩
/-- Slices of bytes in a row. -/
def layS : LayG BsZ := ⟨fun z => [z.val], 1, by decide, fun _ => rfl, fun z u hu => by rw [List.mem_singleton.1 hu]; rfl⟩
theorem layS_at {w : World} {A : Option Addr} {zs : List BsZ} (h : layS.Rd w A zs) {k : Nat} (hk : k < zs.length) : ∃ ad, A = some ad ∧ ad.block < w.heap.size ∧ w.cell? (ad.add k) = some (zs.getD k default).val := by
  obtain ⟨ad, e, hb, h0⟩ := h k hk
  refine ⟨ad, e, hb, ?_⟩
  have := h0 0 _ rfl
  rwa [show k * layS.size + 0 = k from by show k * 1 + 0 = k; omega] at this
/-- What lies behind a slice of slices of bytes. -/
def RdS (w : World) (A : Option Addr) (zs : List BsZ) : Prop := layS.Rd w A zs ∧ ∀ z ∈ zs, z.ok w
theorem RdS.below {w w' : World} {B : Nat} {A : Option Addr} {zs : List BsZ} (h : RdS w A zs) (hB : w.heap.size ≤ B) (hb : Below B w w') : RdS w' A zs := ⟨h.1.below hB hb, fun z hz => (h.2 z hz).below hB hb⟩
/-- None of the memory behind it is of S. -/
def FreeS (S : Nat → Prop) (A : Option Addr) (zs : List BsZ) : Prop := (zs ≠ [] → ∀ ad, A = some ad → ¬ S ad.block) ∧ ∀ z ∈ zs, z.bs ≠ [] → ∀ ad, z.adr = some ad → ¬ S ad.block
theorem RdS.only {w w' : World} {S : Nat → Prop} {A : Option Addr} {zs : List BsZ} (h : RdS w A zs) (ho : Only S w w') (hf : FreeS S A zs) : RdS w' A zs :=
  ⟨h.1.only ho hf.1, fun z hz => ⟨(h.2 z hz).1, (h.2 z hz).2.only ho (hf.2 z hz)⟩⟩
/-- What came in lies below all that is made later. -/
theorem RdS.lt {w : World} {A : Option Addr} {zs : List BsZ} (h : RdS w A zs) {S : Nat → Prop} (hS : ∀ k, S k → w.heap.size ≤ k) : FreeS S A zs := by
  refine ⟨fun hne ad e hs => ?_, fun z hz hne ad e hs => ?_⟩
  · obtain ⟨ae, e2, hb, _⟩ := h.1 0 (List.length_pos_iff.2 hne)
    obtain rfl : ad = ae := by rw [e] at e2; injection e2
    have := hS _ hs
    omega
  · obtain ⟨ae, e2, hb, _⟩ := (h.2 z hz).2 0 (List.length_pos_iff.2 hne)
    obtain rfl : ad = ae := by rw [e] at e2; injection e2
    have := hS _ hs
    omega
/-- All the bytes, one behind the other. -/
def catS (zs : List BsZ) : List UInt8 := zs.flatMap BsZ.bs
theorem catS_succ (zs : List BsZ) (k : Nat) (h : k < zs.length) : catS (zs.take (k + 1)) = catS (zs.take k) ++ (zs.getD k default).bs := by
  unfold catS
  rw [List.take_succ_eq_append_getElem h, List.flatMap_append]
  simp [List.getD_eq_getElem?_getD, List.getElem?_eq_getElem h]
theorem catS_take (zs : List BsZ) (k : Nat) : (catS (zs.take k)).length ≤ (catS zs).length := by
  conv => rhs; rw [← List.take_append_drop k zs]
  unfold catS
  rw [List.flatMap_append, List.length_append]
  omega
theorem catS_le (zs : List BsZ) (m : Nat) (h : ∀ z ∈ zs, z.bs.length ≤ m) : (catS zs).length ≤ zs.length * m := by
  induction zs with
  | nil => simp [catS]
  | cons z r ih =>
    have h1 := h z List.mem_cons_self
    have h2 := ih (fun y hy => h y (List.mem_cons_of_mem _ hy))
    unfold catS at h2 ⊢
    rw [List.flatMap_cons, List.length_append, List.length_cons, Nat.add_mul]
    omega
theorem mem_getDS {zs : List BsZ} {k : Nat} (h : k < zs.length) : zs.getD k default ∈ zs := by rw [List.getD_eq_getElem?_getD, List.getElem?_eq_getElem h]; exact List.getElem_mem h
/-- A slice of bytes that came in. -/
def SlcY (w : World) (a : Option Addr) (l c : Nat) (zs : List UInt8) : Prop := zs.length = l ∧ l ≤ c ∧ layB.Rd w a zs
set_option maxRecDepth 100000 in
theorem open_bs {H : Type} {enc : TypeId × Value → H} {w : World} {base : Nat} {spare : Nat → Bool} {held : Bool} {fuel : Nat} {cs : List Value} {x : DataW H × List MemPlace}
    (h : DataW.trod enc Tryd.prog w base spare held fuel 24 cs = some x) : ∃ a l c zs, cs = [.slice a l c] ∧ SlcY w a l c zs := by
  rcases open_ints Tryd.underlying24 Tryd.underlying5 (by kernel_rfl) h with ⟨hcs, _⟩ | ⟨x, l, c, zs, hcs, _, hl, hm, hz, _, hcell, hwz⟩
  · exact ⟨none, 0, 0, [], hcs, rfl, Nat.le_refl _, LayG.Rd.nothing _⟩
  · have hzl : l ≤ zs.length := by rw [hz]; split <;> omega
    refine ⟨some x, l, c, (zs.take l).map (fun n => UInt8.ofNat n.toNat), hcs, by rw [List.length_map, List.length_take]; omega, hl, fun k hk => ?_⟩
    rw [List.length_map, List.length_take] at hk
    have hc := hcell k (by omega)
    have hmem : zs.getD k 0 ∈ zs := by rw [List.getD_eq_getElem?_getD, List.getElem?_eq_getElem (by omega)]; exact List.getElem_mem _
    have hw := hwz _ hmem
    obtain ⟨q, hq⟩ : ∃ q, zs.getD k 0 = q := ⟨_, rfl⟩
    rw [hq] at hw hc
    refine ⟨x, rfl, by have := block_lt hc; rw [add_block] at this; exact this, fun j u hu => ?_⟩
    have hu2 : j = 0 ∧ u = .int .u8 ((((zs.take l).map (fun n => UInt8.ofNat n.toNat)).getD k default).toNat : Int) := by
      cases j with
      | zero => exact ⟨rfl, (Option.some.inj hu).symm⟩
      | succ j => cases hu
    obtain ⟨rfl, rfl⟩ := hu2
    have e : ((zs.take l).map (fun n => UInt8.ofNat n.toNat)).getD k default = UInt8.ofNat (zs.getD k 0).toNat := by
      rw [List.getD_eq_getElem?_getD, List.getElem?_map, List.getElem?_take, if_pos (by omega), List.getD_eq_getElem?_getD, List.getElem?_eq_getElem (by omega)]
      rfl
    have hb : 0 ≤ q ∧ q < 256 := by
      simp [Lit.wf, IntKind.min, IntKind.max, IntKind.bits, IntKind.signed] at hw
      omega
    rw [e, hq, show k * layB.size + 0 = k from by show k * 1 + 0 = k; omega, hc]
    have : ((UInt8.ofNat q.toNat).toNat : Int) = q := by
      rw [UInt8.toNat_ofNat', Nat.mod_eq_of_lt (by omega)]
      omega
    rw [this]
/-- A slice of slices of bytes that came in. -/
def SlcS (w : World) (a : Option Addr) (l c : Nat) (zs : List BsZ) : Prop := zs.length = l ∧ l ≤ c ∧ RdS w a zs
set_option maxRecDepth 100000 in
theorem open_bss {H : Type} {enc : TypeId × Value → H} {w : World} {base : Nat} {spare : Nat → Bool} {held : Bool} {fuel : Nat} {cs : List Value} {x : DataW H × List MemPlace}
    (h : DataW.trod enc Tryd.prog w base spare held fuel 22 cs = some x) : ∃ a l c zs, cs = [.slice a l c] ∧ SlcS w a l c zs := by
  rcases Go.Deep.open_slice Tryd.underlying22 h with ⟨hcs, _⟩ | ⟨ad, len, cap, m, n, D, Pl, hcs, _, hl, hm, hmm, _, hx⟩
  · exact ⟨none, 0, 0, [], hcs, rfl, Nat.le_refl _, LayG.Rd.nothing _, fun z hz => by cases hz⟩
  · have hlm : len ≤ m := by rw [hmm]; split <;> omega
    have ce : Tryd.prog.cellsOf 24 = 1 := by kernel_rfl
    have each : ∀ i, i < len → ∃ z : BsZ, z.ok w ∧ w.cell? (ad.add i) = some z.val := by
      intro i hi
      obtain ⟨cs', h1, h2⟩ := hx i (by omega)
      rw [ce] at h1
      obtain ⟨_, hlen, hcell⟩ := World.cells?_some h1
      obtain ⟨a, l, c, zs, e1, hz⟩ := open_bs h2
      subst e1
      have c0 := hcell 0 (by omega)
      obtain ⟨rfl, hz2, hz3⟩ := hz
      exact ⟨⟨a, c, zs⟩, ⟨hz2, hz3⟩, by simpa [Go.Deep.add_add, BsZ.val] using c0⟩
    obtain ⟨q, hq⟩ := Go.Deep.choose_lt each
    refine ⟨some ad, len, cap, (List.range len).map q, hcs, by simp, hl, fun k hk => ?_, fun z hz => ?_⟩
    · rw [List.length_map, List.length_range] at hk
      obtain ⟨_, h0⟩ := hq k hk
      have e : ((List.range len).map q).getD k default = q k := by
        rw [List.getD_eq_getElem?_getD, List.getElem?_map, List.getElem?_range hk]
        rfl
      refine ⟨ad, rfl, by have := block_lt h0; rw [add_block] at this; exact this, fun j u hu => ?_⟩
      rw [e] at hu
      cases j with
      | zero =>
        have : u = (q k).val := (Option.some.inj hu).symm
        rw [this, show k * layS.size + 0 = k from by show k * 1 + 0 = k; omega]
        exact h0
      | succ j => cases hu
    · obtain ⟨i, hi, rfl⟩ := List.mem_map.1 hz
      exact (hq i (List.mem_range.1 hi)).1
end Go.Proofs.YtpmmbbkomikceaaDoor
