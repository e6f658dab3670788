/- Slices and rows of elements of any kind that lie in so many cells each: read, appended to, cut. -/
import Derived.Test.YtpmmbbkomikceaaDoorFoot
import Derived.Test.YtpmmbbkomikceaaDoorOwn
import Derived.WalkKit
import Derived.WalkSmall
import Derived.Deep.AppendLies
import Derived.Laws.OwnMore
import Derived.Laws.AppendOwnNone
import Derived.Deep.Slices
set_option linter.unusedVariables false
namespace Go.Proofs.YtpmmbbkomikceaaDoor
open Go Go.RowKit

/-- How an element lies. -/
structure LayG (α : Type) where
  enc : α → List Value
  size : Nat
  pos : 0 < size
  len : ∀ z, (enc z).length = size
  one : ∀ z, ∀ u ∈ enc z, u.oneCell' = true
/-- The types of a slice and of its elements. -/
structure TypG {α : Type} (P : Program) (T E : TypeId) (L : LayG α) : Prop where
  ht : P.underlying T = some (.slice E)
  info : ∃ i z, P.info? E = some i ∧ i.zero = some z ∧ i.size = L.size ∧ i.bytes ≤ 1000 ∧ z.cells.size = L.size
section
variable {α : Type} (L : LayG α)
/-- A row of the call's own. -/
def LayG.Row (E : TypeId) (w : World) (B : Nat) (v : Value) (n : Nat) (zs : List α) : Prop := w.ownsRow B E L.size v n (zs.flatMap L.enc)
theorem flat_len (zs : List α) : (zs.flatMap L.enc).length = zs.length * L.size := by
  induction zs with
  | nil => simp
  | cons z r ih => rw [List.flatMap_cons, List.length_append, ih, L.len, List.length_cons, Nat.add_mul]; omega
theorem flat_one (zs : List α) : ∀ u ∈ zs.flatMap L.enc, u.oneCell' = true := by
  intro u hu
  obtain ⟨z, _, hz⟩ := List.mem_flatMap.1 hu
  exact L.one z u hz
variable {L} {E : TypeId}
theorem LayG.Row.nil (w : World) (B : Nat) : L.Row E w B (.slice none 0 0) 0 [] := World.ownsRow_nil _ _ _ _
theorem LayG.Row.lt {w : World} {B n : Nat} {v : Value} {zs : List α} (h : L.Row E w B v n zs) : ∀ g, v.ownBlock = some g → B ≤ g ∧ g < w.heap.size := World.ownsRow.lt h
theorem LayG.Row.only {w w' : World} {S : Nat → Prop} {B n : Nat} {v : Value} {zs : List α} (h : L.Row E w B v n zs) (ho : Only S w w') (hv : ∀ g, v.ownBlock = some g → ¬ S g) : L.Row E w' B v n zs := ownsRow_only h ho hv
theorem LayG.Row.mono {w : World} {B B' n : Nat} {v : Value} {zs : List α} (h : L.Row E w B v n zs) (hb : B' ≤ B) : L.Row E w B' v n zs := by
  rcases h.2 with hv | ⟨g', cap, cur, hv, hBg, hrest⟩
  · exact ⟨h.1, .inl hv⟩
  · exact ⟨h.1, .inr ⟨g', cap, cur, hv, Nat.le_trans hb hBg, hrest⟩⟩
theorem LayG.Row.len {w : World} {B n : Nat} {v : Value} {zs : List α} (h : L.Row E w B v n zs) : zs.length = n := by
  have := h.1
  rw [flat_len] at this
  exact Nat.eq_of_mul_eq_mul_right L.pos this
theorem LayG.Row.self {w : World} {B n : Nat} {v : Value} {zs : List α} (h : L.Row E w B v n zs) : L.Row E w B v zs.length zs := by
  have e := h.len
  subst e
  exact h
theorem LayG.Row.below {w w' : World} {B n : Nat} {v : Value} {zs : List α} (h : L.Row E w B v n zs) (hb : Below w.heap.size w w') : L.Row E w' B v n zs := h.only (S := fun _ => False) (Below.only hb) (fun _ _ h => h)
/-- A literal of the call's own. -/
theorem LayG.Row.lit (w : World) (cs : Array Value) (zs : List α) (he : cs.toList = zs.flatMap L.enc) (hm : zs.length ≤ maxLen) : L.Row E (w.alloc (.cells cs E)) w.heap.size (.slice (some ⟨w.heap.size, 0, none⟩) zs.length zs.length) zs.length zs := by
  have hs : cs.size = zs.length * L.size := by rw [← Array.length_toList, he, flat_len]
  have := World.ownsRow_lit (base := w.heap.size) (e := E) (size := L.size) w cs zs.length (Nat.le_refl _) hm hs
  rw [he] at this
  exact this
variable {P : Program} {T : TypeId}
theorem append_zeroG (I : TypG P T E L) {w : World} {B n : Nat} {v : Value} {zs : List α} (h : L.Row E w B v n zs) (A : Option Addr) (c : Nat) (ty : TypeId) : (Builtin.append_ #[T, T] ty #[v, .slice A 0 c]).run P w = .ok v w := by
  obtain ⟨i0, z0, hi, hz0, hz1, hz2, hz3⟩ := I.info
  rcases h.2 with ⟨rfl, rfl⟩ | ⟨g, cap, cur, rfl, _, _, hnc, _⟩
  · cases A <;> simp [Builtin.append_, run_underlying I.ht, sizeOf, typeInfo, hi, Builtin.lenOf, Builtin.firstCells, loadCells, loadCellsFrom]
  · cases A <;> simp [Builtin.append_, run_underlying I.ht, sizeOf, typeInfo, hi, Builtin.lenOf, Builtin.firstCells, hnc, loadCells, loadCellsFrom, storeCells]
end
section
variable {α : Type} [Inhabited α] (L : LayG α)
/-- What lies behind a slice. -/
def LayG.Rd (w : World) (A : Option Addr) (zs : List α) : Prop := ∀ k, k < zs.length → ∃ ad, A = some ad ∧ ad.block < w.heap.size ∧ ∀ j u, (L.enc (zs.getD k default))[j]? = some u → w.cell? (ad.add (k * L.size + j)) = some u
variable {L}
theorem LayG.Rd.only {w w' : World} {S : Nat → Prop} {A : Option Addr} {zs : List α} (h : L.Rd w A zs) (ho : Only S w w') (hA : zs ≠ [] → ∀ ad, A = some ad → ¬ S ad.block) : L.Rd w' A zs := by
  intro k hk
  obtain ⟨ad, e, hlt, h0⟩ := h k hk
  have hne : zs ≠ [] := fun e => by rw [e] at hk; exact absurd hk (Nat.not_lt_zero _)
  refine ⟨ad, e, Nat.lt_of_lt_of_le hlt ho.size, fun j u hu => ?_⟩
  have hb : (ad.add (k * L.size + j)).block = ad.block := add_block _ _
  rw [World.cell?_of_block (ho.block _ (by rw [hb]; exact hlt) (by rw [hb]; exact hA hne ad e))]
  exact h0 j u hu
theorem LayG.Rd.below {w w' : World} {B : Nat} {A : Option Addr} {zs : List α} (h : L.Rd w A zs) (hB : w.heap.size ≤ B) (hb : Below B w w') : L.Rd w' A zs :=
  h.only (S := fun _ => False) (Below.only (hb.mono hB)) (fun _ _ _ h => h)
theorem LayG.Rd.nothing {w : World} (A : Option Addr) : L.Rd w A [] := fun k hk => by simp at hk
theorem LayG.Rd.none_nil {w : World} {zs : List α} (h : L.Rd w none zs) : zs = [] := by
  cases zs with
  | nil => rfl
  | cons b r => obtain ⟨ad, e, _⟩ := h 0 (by simp); cases e
theorem LayG.Rd.take {w : World} {A : Option Addr} {zs : List α} (h : L.Rd w A zs) (m : Nat) : L.Rd w A (zs.take m) := by
  intro k hk
  rw [List.length_take] at hk
  obtain ⟨ad, e, hb, h0⟩ := h k (by omega)
  have eg : (zs.take m).getD k default = zs.getD k default := by rw [List.getD_eq_getElem?_getD, List.getD_eq_getElem?_getD, List.getElem?_take, if_pos (by omega)]
  exact ⟨ad, e, hb, by rw [eg]; exact h0⟩
theorem LayG.Rd.drop {w : World} {ad : Addr} {zs : List α} (h : L.Rd w (some ad) zs) (m : Nat) : L.Rd w (some (ad.add (m * L.size))) (zs.drop m) := by
  intro k hk
  rw [List.length_drop] at hk
  obtain ⟨ae, e, hb, h0⟩ := h (m + k) (by omega)
  obtain rfl : ad = ae := by injection e
  have eg : (zs.drop m).getD k default = zs.getD (m + k) default := by rw [List.getD_eq_getElem?_getD, List.getD_eq_getElem?_getD, List.getElem?_drop]
  refine ⟨_, rfl, by rw [add_block]; exact hb, fun j u hu => ?_⟩
  rw [eg] at hu
  rw [Go.Deep.add_add, show m * L.size + (k * L.size + j) = (m + k) * L.size + j from by rw [Nat.add_mul, Nat.add_assoc]]
  exact h0 j u hu
variable (L) in
theorem flat_at : ∀ (zs : List α) (k : Nat), k < zs.length → ∀ j, j < L.size → (zs.flatMap L.enc)[k * L.size + j]? = (L.enc (zs.getD k default))[j]?
  | [], k, h, j, hj => by simp at h
  | z :: r, 0, _, j, hj => by
    rw [List.flatMap_cons, Nat.zero_mul, Nat.zero_add, List.getElem?_append_left (by rw [L.len]; exact hj)]
    rfl
  | z :: r, k + 1, h, j, hj => by
    have ih := flat_at r k (by simpa using h) j hj
    rw [List.flatMap_cons, List.getElem?_append_right (by rw [L.len, Nat.add_mul]; omega), L.len, show (k + 1) * L.size + j - L.size = k * L.size + j from by rw [Nat.add_mul]; omega]
    exact ih
theorem LayG.Rd.news {w : World} {x : Addr} {zs : List α} (h : L.Rd w (some x) zs) : ∀ j u, (zs.flatMap L.enc)[j]? = some u → w.cell? (x.add j) = some u := by
  intro j u hj
  have hlt : j < zs.length * L.size := by rw [← flat_len]; exact (List.getElem?_eq_some_iff.1 hj).1
  have hm : j % L.size < L.size := Nat.mod_lt _ L.pos
  have hk : j / L.size < zs.length := Nat.div_lt_of_lt_mul (by rw [Nat.mul_comm]; exact hlt)
  have e : j = j / L.size * L.size + j % L.size := by rw [Nat.mul_comm]; exact (Nat.div_add_mod j L.size).symm
  rw [e, flat_at L zs _ hk _ hm] at hj
  obtain ⟨ad, e2, _, h0⟩ := h _ hk
  obtain rfl : x = ad := by injection e2
  rw [e]
  exact h0 _ u hj
variable {E : TypeId}
theorem LayG.Row.rd {w : World} {B n : Nat} {v : Value} {zs : List α} (h : L.Row E w B v n zs) : ∃ A c, v = .slice A n c ∧ zs.length ≤ c ∧ L.Rd w A zs ∧ (∀ ad, A = some ad → ad = ⟨ad.block, 0, none⟩ ∧ v.ownBlock = some ad.block ∧ B ≤ ad.block ∧ ad.block < w.heap.size) ∧ (A = none → zs = [] ∧ c = 0) := by
  have hl := h.len
  rcases h.2 with ⟨hv, h0⟩ | ⟨g, cap, cur, hv, h2, h3, h4, _⟩
  · obtain rfl : zs = [] := List.length_eq_zero_iff.1 (by omega)
    exact ⟨none, 0, by rw [hv, h0], Nat.zero_le _, fun k hk => by simp at hk, (fun _ e => by cases e), fun _ => ⟨rfl, rfl⟩⟩
  · subst hv
    have hlt := World.ownsRow.lt h g rfl
    refine ⟨_, cap, rfl, by omega, fun k hk => ⟨⟨g, 0, none⟩, rfl, hlt.2, fun j u hu => ?_⟩, fun ad e => ?_, fun e => by cases e⟩
    · have hj : j < L.size := by rw [← L.len (zs.getD k default)]; exact (List.getElem?_eq_some_iff.1 hu).1
      exact World.ownsRow.cells h rfl _ _ ((flat_at L zs k hk j hj).trans hu)
    · obtain rfl : (⟨g, 0, none⟩ : Addr) = ad := by injection e
      exact ⟨rfl, rfl, hlt.1, hlt.2⟩
theorem LayG.Rd.lit (w : World) (cs : Array Value) (zs : List α) (he : cs.toList = zs.flatMap L.enc) (hm : zs.length ≤ maxLen) : L.Rd (w.alloc (.cells cs E)) (some ⟨w.heap.size, 0, none⟩) zs := by
  obtain ⟨A, c, e, _, hr, _⟩ := (LayG.Row.lit (L := L) (E := E) w cs zs he hm).rd
  injection e with e
  rw [e]
  exact hr
variable {P : Program} {T : TypeId}
/-- Elements appended to a row of the call's own, wherever they lie. -/
theorem wp_append_G (I : TypG P T E L) {w : World} {o : Oper} {a : Act} {K : Act → World → Prop} {Q : Exit → Act → World → Prop} (s x : Operand)
    (ho : o.op = .call { callee := .builtin .append, args := #[s, x], argTypes := #[T, T] }) (base : Nat) (v : Value) (n : Nat) (M : List α) (hs : a.eval s = v) (hown : L.Row E w base v n M)
    (A : Option Addr) (m c : Nat) (zs : List α) (hx : a.eval x = .slice A m c) (hm : zs.length = m) (hrd : L.Rd w A zs) (hn : n + zs.length ≤ 1000000) (hbase : base ≤ w.heap.size) (H : Nat) (hH : w.heap.size = H)
    (h : ∀ v' w', L.Row E w' base v' (n + m) (M ++ zs) → w.grownBy w' v.ownBlock → (∀ g, v'.ownBlock = some g → v.ownBlock = some g ∨ g = H) → K (a.put o.dst v') w') : o.wp P a w K Q := by
  obtain ⟨i0, z0, hi, hz0, hz1, hz2, hz3⟩ := I.info
  subst hm
  have zero : zs = [] → o.wp P a w K Q := fun hz => by
    subst hz
    have hk := h v w (by simpa using hown) ⟨rfl, rfl, rfl, Nat.le_refl _, fun _ _ _ => rfl⟩ (fun g hg => .inl hg)
    unfold Oper.wp
    simp only [List.length_nil] at hx
    have hty : ∀ ty, (Builtin.append_ #[T, T] ty #[v, .slice A 0 c]).run P w = .ok v w := fun ty => append_zeroG I hown A c ty
    simp [execOp, ho, resolve, invoke, builtin, hs, hx, hty, Result.andThen]
    exact hk
  cases A with
  | none => exact zero hrd.none_nil
  | some ad =>
    by_cases hz : zs = []
    · exact zero hz
    · have hpos : 0 < zs.length := List.length_pos_iff.2 hz
      have hb : (n + zs.length) * i0.bytes ≤ 140737488355328 := Nat.le_trans (Nat.mul_le_mul hn hz2) (by decide)
      refine wp_append_lies _ s x T ho base E i0 _ L.size i0.bytes I.ht hi hz0 hz1 rfl hz3 L.pos v n (M.flatMap L.enc) hs hown ad zs.length c (zs.flatMap L.enc) hx (flat_len L zs) hrd.news (flat_one L _) hpos (by unfold maxLen; omega) hb hbase H hH ?_
      intro g cap w' hown' hgrow hlies _
      refine h _ w' ?_ hgrow (fun g' hg' => ?_)
      · unfold LayG.Row
        rw [List.flatMap_append]
        exact hown'
      · obtain rfl : g = g' := by simpa [Value.ownBlock] using hg'
        exact hlies
theorem wpList_append_G (I : TypG P T E L) {w : World} {ops : Array Oper} {rest : List Oper} {o : Oper} {a : Act} {Q : Exit → Act → World → Prop} (hgd : o.guard = none) (s x : Operand)
    (ho : o.op = .call { callee := .builtin .append, args := #[s, x], argTypes := #[T, T] }) (base : Nat) (v : Value) (n : Nat) (M : List α) (hs : a.eval s = v) (hown : L.Row E w base v n M)
    (A : Option Addr) (m c : Nat) (zs : List α) (hx : a.eval x = .slice A m c) (hm : zs.length = m) (hrd : L.Rd w A zs) (hn : n + zs.length ≤ 1000000) (hbase : base ≤ w.heap.size) (H : Nat) (hH : w.heap.size = H)
    (h : ∀ v' w', L.Row E w' base v' (n + m) (M ++ zs) → w.grownBy w' v.ownBlock → (∀ g, v'.ownBlock = some g → v.ownBlock = some g ∨ g = H) → wpList P ops Q rest (a.put o.dst v') w') : wpList P ops Q (o :: rest) a w :=
  wpList_plain hgd fun K hK => wp_append_G I s x ho base v n M hs hown A m c zs hx hm hrd hn hbase H hH (fun v' w' h1 h2 h3 => hK _ _ (h v' w' h1 h2 h3))
end
/-- Ints. -/
def layI : LayG Int := ⟨fun z => [.int .i64 z], 1, by decide, fun _ => rfl, fun z u hu => by rw [List.mem_singleton.1 hu]; rfl⟩
theorem layI_flat (zs : List Int) : zs.flatMap layI.enc = zs.map (fun z => Value.int .i64 z) := by
  induction zs with
  | nil => rfl
  | cons z r ih => rw [List.flatMap_cons, ih]; rfl
theorem layI_at {w : World} {A : Option Addr} {zs : List Int} (h : layI.Rd w A zs) {k : Nat} (hk : k < zs.length) : ∃ ad, A = some ad ∧ ad.block < w.heap.size ∧ w.cell? (ad.add k) = some (.int .i64 (zs.getD k default)) := by
  obtain ⟨ad, e, hb, h0⟩ := h k hk
  refine ⟨ad, e, hb, ?_⟩
  have := h0 0 _ rfl
  rwa [show k * layI.size + 0 = k from by show k * 1 + 0 = k; omega] at this
/-- A cell of a row of ints is written. -/
theorem layI_set {w : World} {B n c k : Nat} {E : TypeId} {g : Nat} {zs : List Int} (h : layI.Row E w B (.slice (some ⟨g, 0, none⟩) n c) n zs) (x : Int) :
    layI.Row E (w.setCell ⟨g, k, none⟩ (.int .i64 x)) B (.slice (some ⟨g, 0, none⟩) n c) n (zs.set k x) ∧ Only (fun b => b = g) w (w.setCell ⟨g, k, none⟩ (.int .i64 x)) := by
  obtain ⟨h1, h2⟩ := World.ownsRow.stored (size := layI.size) h k (.int .i64 x)
  refine ⟨?_, Only.setCell (S := fun b => b = g) (p := ⟨g, k, none⟩) (Only.refl _ w) (.inl rfl) _⟩
  unfold LayG.Row
  rw [layI_flat, List.map_set, ← layI_flat]
  exact h1
end Go.Proofs.YtpmmbbkomikceaaDoor
