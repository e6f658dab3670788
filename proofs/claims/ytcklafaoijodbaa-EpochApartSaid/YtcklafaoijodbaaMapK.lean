/- A map in a block, as a function of its keys: made, looked up, written, deleted from, counted. -/
import Derived.Test.YtcklafaoijodbaaFoot
import Derived.Maps.OwnSet
import Derived.WalkKit
set_option linter.unusedVariables false
namespace Go.Proofs.Ytcklafaoijodbaa
open Go Go.RowKit
open Go.Maps (Keyed)

/-- An element, as it stands. -/
def heldE : Value → Option (DataW Value × List MemPlace) := fun v => some (.held v, [])
/-- Block b is a map of at most n entries, whose key κ x has the element g x; it has sz entries. -/
def MapK {X : Type} (P : Program) (kt : TypeId) (κ : X → Lit) (w : World) (b n : Nat) (g : X → Option Value) (sz : Nat) : Prop :=
  ∃ D : DataW Value, w.ownsMap P kt heldE b n D ∧ (∀ x z, D.atKey (κ x) z = match g x with | some v => .held v | none => z) ∧ Maps.size D = sz
section
variable {X : Type} {P : Program} {kt : TypeId} {κ : X → Lit} {w : World} {b n : Nat} {g : X → Option Value} {sz : Nat}
theorem MapK.has {D : DataW Value} (h : ∀ x z, D.atKey (κ x) z = match g x with | some v => .held v | none => z) (x : X) : Maps.has D (κ x) = (g x).isSome := by
  have hx := h x
  cases hg : g x with
  | none => rw [hg] at hx; exact Maps.has_false_of_atKey hx
  | some v => rw [hg] at hx; exact Maps.has_true_of_atKey (y := .held v) hx
theorem MapK.made (w : World) (P : Program) (kt : TypeId) (κ : X → Lit) : MapK P kt κ (w.alloc (.map #[] 0)) w.heap.size 0 (fun _ => none) 0 :=
  ⟨.map [], World.ownsMap_made w P kt heldE, fun x z => rfl, rfl⟩
theorem MapK.lt (h : MapK P kt κ w b n g sz) : b < w.heap.size := by obtain ⟨D, h, _⟩ := h; exact h.lt
theorem MapK.mono (h : MapK P kt κ w b n g sz) {m : Nat} (hm : n ≤ m) : MapK P kt κ w b m g sz := by obtain ⟨D, h, h2⟩ := h; exact ⟨D, h.mono hm, h2⟩
theorem MapK.block {w' : World} (h : MapK P kt κ w b n g sz) (e : w'.heap[b]? = w.heap[b]?) : MapK P kt κ w' b n g sz := by
  obtain ⟨D, ⟨es, clock, hb, r⟩, h2⟩ := h
  exact ⟨D, ⟨es, clock, e.trans hb, r⟩, h2⟩
theorem MapK.only {S : Nat → Prop} {w' : World} (h : MapK P kt κ w b n g sz) (ho : Only S w w') (hb : ¬ S b) : MapK P kt κ w' b n g sz := h.block (ho.block b h.lt hb)
theorem MapK.below {w' : World} (h : MapK P kt κ w b n g sz) (hb : Below w.heap.size w w') : MapK P kt κ w' b n g sz := h.block (hb.block b h.lt)
theorem MapK.size_le (h : MapK P kt κ w b n g sz) : sz ≤ n := by obtain ⟨D, h, _, e⟩ := h; rw [← e]; exact h.size_le
/-- 'm[k]'. -/
theorem MapK.look {t e : TypeId} (h : MapK P kt κ w b n g sz) (K : Keyed P kt) (ht : P.underlying t = some (.map kt e)) {z : Value} (hz : (zeroValue e).run P w = .ok z w) {key : Value} {x : X} (hkey : keyOf P kt key = some (κ x)) :
    (Instr.lookup t (.map (some b)) key false).run P w = .ok ((g x).getD z) w := by
  obtain ⟨D, h, hat, _⟩ := h
  obtain ⟨v, ps, hrun, hv⟩ := h.lookup K ht hz (zd := .held z) (zp := []) rfl hkey
  rw [hrun]
  have e1 := hat x (.held z)
  have e2 : DataW.held v = D.atKey (κ x) (.held z) := (Prod.mk.inj (Option.some.inj hv)).1
  rw [e1] at e2
  cases hg : g x with
  | none => rw [hg] at e2; injection e2 with e2; rw [e2]; rfl
  | some u => rw [hg] at e2; injection e2 with e2; rw [e2]; rfl
/-- 'v, ok := m[k]'. -/
theorem MapK.lookOk {t e : TypeId} (h : MapK P kt κ w b n g sz) (K : Keyed P kt) (ht : P.underlying t = some (.map kt e)) {z : Value} (hz : (zeroValue e).run P w = .ok z w) {key : Value} {x : X} (hkey : keyOf P kt key = some (κ x)) :
    (Instr.lookup t (.map (some b)) key true).run P w = .ok (.tuple #[(g x).getD z, .bool (g x).isSome]) w := by
  obtain ⟨D, h, hat, _⟩ := h
  obtain ⟨v, ps, hrun, hv⟩ := h.look_ok K ht hz (zd := .held z) (zp := []) rfl hkey
  rw [hrun, MapK.has hat]
  have e1 := hat x (.held z)
  have e2 : DataW.held v = D.atKey (κ x) (.held z) := (Prod.mk.inj (Option.some.inj hv)).1
  rw [e1] at e2
  cases hg : g x with
  | none => rw [hg] at e2; injection e2 with e2; rw [e2]; rfl
  | some u => rw [hg] at e2; injection e2 with e2; rw [e2]; rfl
theorem MapK.len {t e : TypeId} (h : MapK P kt κ w b n g sz) (ht : P.underlying t = some (.map kt e)) (ty : TypeId) : (Builtin.len_ #[t] ty #[.map (some b)]).run P w = .ok (.int .i64 sz) w := by
  obtain ⟨D, h, _, rfl⟩ := h
  exact h.len ht ty
theorem turned_only {w' : World} (h : w.mapTurned w' b) : Only (fun k => k = b) w w' := by
  have g := h.grown
  exact ⟨g.os, g.tape, g.output, g.size, fun k hk hn => g.block k hk (fun e => hn (by injection e))⟩
def putK [DecidableEq X] (g : X → Option Value) (x : X) (v : Option Value) : X → Option Value := fun y => if y = x then v else g y
theorem putK_same [DecidableEq X] (g : X → Option Value) (x : X) (v : Option Value) : putK g x v x = v := if_pos rfl
theorem putK_other [DecidableEq X] (g : X → Option Value) (x y : X) (v : Option Value) (h : y ≠ x) : putK g x v y = g y := if_neg h
/-- 'm[k] = v'. -/
theorem MapK.store [DecidableEq X] {t e : TypeId} (h : MapK P kt κ w b n g sz) (hκ : ∀ x y, κ x = κ y → x = y) (K : Keyed P kt) (ht : P.underlying t = some (.map kt e)) (hn : n < maxLen) {key : Value} {x : X} (hkey : keyOf P kt key = some (κ x)) (v : Value) :
    ∃ w', (Instr.mapUpdate t (.map (some b)) key v).run P w = .ok () w' ∧ MapK P kt κ w' b (n + 1) (putK g x (some v)) (if (g x).isSome then sz else sz + 1) ∧ Only (fun k => k = b) w w' := by
  obtain ⟨D, h, hat, hsz⟩ := h
  obtain ⟨w', hrun, h', ht'⟩ := h.store K ht hn hkey (val := v) (d := .held v) (ps := []) rfl
  refine ⟨w', hrun, ⟨_, h', fun y z => ?_, ?_⟩, turned_only ht'⟩
  · by_cases e : y = x
    · subst e
      rw [putK_same, Maps.atKey_put_same h.isMap (K.one.key ⟨_, hkey⟩)]
    · rw [putK_other _ _ _ _ e, Maps.atKey_put_other (fun e2 => e (hκ _ _ e2)), hat]
  · rw [Maps.size_put (h.tidy K), MapK.has hat, hsz]
/-- 'delete(m, k)'. -/
theorem MapK.drop [DecidableEq X] {t e : TypeId} (h : MapK P kt κ w b n g sz) (hκ : ∀ x y, κ x = κ y → x = y) (K : Keyed P kt) (ht : P.underlying t = some (.map kt e)) {key : Value} {x : X} (hkey : keyOf P kt key = some (κ x)) (ty : TypeId) :
    ∃ w', (Builtin.delete_ #[t, kt] ty #[.map (some b), key]).run P w = .ok (.tuple #[]) w' ∧ MapK P kt κ w' b n (putK g x none) (if (g x).isSome then sz - 1 else sz) ∧ Only (fun k => k = b) w w' := by
  obtain ⟨D, h, hat, hsz⟩ := h
  obtain ⟨w', hrun, h', ht'⟩ := h.drop K ht hkey ty
  refine ⟨w', hrun, ⟨_, h', fun y z => ?_, ?_⟩, turned_only ht'⟩
  · by_cases e : y = x
    · subst e
      rw [putK_same, Maps.atKey_del_same]
    · rw [putK_other _ _ _ _ e, Maps.atKey_del_other (fun e2 => e (hκ _ _ e2)), hat]
  · have := Maps.size_del (k := κ x) (h.tidy K)
    rw [MapK.has hat] at this
    split <;> simp_all <;> omega
end
/-- .. at the operation, for a walk: '(at_mapUpdate; refine wpList_storeK rfl _ _ _ rfl hM hκ K ht hn rfl rfl rfl hkey ?_; intro w1 hM1 o1)'. -/
theorem wpList_storeK {X : Type} [DecidableEq X] {P : Program} {kt : TypeId} {κ : X → Lit} {w : World} {b n : Nat} {g : X → Option Value} {sz : Nat} {ops : Array Oper} {rest : List Oper} {o : Oper} {a : Act} {Q : Exit → Act → World → Prop}
    (hg : o.guard = none) (m x v : Operand) (t : TypeId) (hop : o.op = Op.mapUpdate t m x v) {e : TypeId} (h : MapK P kt κ w b n g sz) (hκ : ∀ x y, κ x = κ y → x = y) (K : Keyed P kt) (ht : P.underlying t = some (.map kt e)) (hn : n < maxLen)
    (hm : a.eval m = .map (some b)) (key val : Value) (hx : a.eval x = key) (hv : a.eval v = val) (k : X) (hkey : keyOf P kt key = some (κ k))
    (hK : ∀ w', MapK P kt κ w' b (n + 1) (putK g k (some val)) (if (g k).isSome then sz else sz + 1) → Only (fun k => k = b) w w' → wpList P ops Q rest (a.put o.dst undef) w') :
    wpList P ops Q (o :: rest) a w := by
  refine wpList_plain hg fun K' hK' => ?_
  obtain ⟨w', hrun, r1, r2⟩ := h.store hκ K ht hn hkey val
  unfold Oper.wp
  simp [execOp, hop, hm, hx, hv, hrun, Result.andThen]
  exact hK' _ _ (hK w' r1 r2)
/-- '(at_delete; refine wpList_dropK rfl _ _ _ rfl hM hκ K ht rfl _ rfl _ hkey ?_; intro w1 hM1 o1)'. -/
theorem wpList_dropK {X : Type} [DecidableEq X] {P : Program} {kt : TypeId} {κ : X → Lit} {w : World} {b n : Nat} {g : X → Option Value} {sz : Nat} {ops : Array Oper} {rest : List Oper} {o : Oper} {a : Act} {Q : Exit → Act → World → Prop}
    (hg : o.guard = none) (m x : Operand) (t : TypeId) (hop : o.op = Op.call { callee := Callee.builtin Builtin.delete, args := #[m, x], argTypes := #[t, kt] }) {e : TypeId} (h : MapK P kt κ w b n g sz) (hκ : ∀ x y, κ x = κ y → x = y) (K : Keyed P kt)
    (ht : P.underlying t = some (.map kt e)) (hm : a.eval m = .map (some b)) (key : Value) (hx : a.eval x = key) (k : X) (hkey : keyOf P kt key = some (κ k))
    (hK : ∀ w', MapK P kt κ w' b n (putK g k none) (if (g k).isSome then sz - 1 else sz) → Only (fun k => k = b) w w' → wpList P ops Q rest (a.put o.dst (.tuple #[])) w') :
    wpList P ops Q (o :: rest) a w := by
  refine wpList_plain hg fun K' hK' => ?_
  obtain ⟨w', hrun, r1, r2⟩ := h.drop hκ K ht hkey o.type
  unfold Oper.wp
  simp [execOp, hop, resolve, invoke, builtin, hm, hx, hrun, Result.andThen]
  exact hK' _ _ (hK w' r1 r2)
/-- .. of a region that draws, by hand. -/
theorem wp_storeK {X : Type} [DecidableEq X] {P : Program} {kt : TypeId} {κ : X → Lit} {w : World} {b n : Nat} {g : X → Option Value} {sz : Nat} {o : Oper} {a : Act} {K : Act → World → Prop} {Q : Exit → Act → World → Prop}
    (m x v : Operand) (t : TypeId) (hop : o.op = Op.mapUpdate t m x v) {e : TypeId} (h : MapK P kt κ w b n g sz) (hκ : ∀ x y, κ x = κ y → x = y) (K1 : Keyed P kt) (ht : P.underlying t = some (.map kt e)) (hn : n < maxLen)
    (hm : a.eval m = .map (some b)) (key val : Value) (hx : a.eval x = key) (hv : a.eval v = val) (k : X) (hkey : keyOf P kt key = some (κ k))
    (hK : ∀ w', MapK P kt κ w' b (n + 1) (putK g k (some val)) (if (g k).isSome then sz else sz + 1) → Only (fun k => k = b) w w' → K (a.put o.dst undef) w') :
    o.wp P a w K Q := by
  obtain ⟨w', hrun, r1, r2⟩ := h.store hκ K1 ht hn hkey val
  unfold Oper.wp
  simp [execOp, hop, hm, hx, hv, hrun, Result.andThen]
  exact hK w' r1 r2
theorem wp_dropK {X : Type} [DecidableEq X] {P : Program} {kt : TypeId} {κ : X → Lit} {w : World} {b n : Nat} {g : X → Option Value} {sz : Nat} {o : Oper} {a : Act} {K : Act → World → Prop} {Q : Exit → Act → World → Prop}
    (m x : Operand) (t : TypeId) (hop : o.op = Op.call { callee := Callee.builtin Builtin.delete, args := #[m, x], argTypes := #[t, kt] }) {e : TypeId} (h : MapK P kt κ w b n g sz) (hκ : ∀ x y, κ x = κ y → x = y) (K1 : Keyed P kt)
    (ht : P.underlying t = some (.map kt e)) (hm : a.eval m = .map (some b)) (key : Value) (hx : a.eval x = key) (k : X) (hkey : keyOf P kt key = some (κ k))
    (hK : ∀ w', MapK P kt κ w' b n (putK g k none) (if (g k).isSome then sz - 1 else sz) → Only (fun k => k = b) w w' → K (a.put o.dst (.tuple #[])) w') :
    o.wp P a w K Q := by
  obtain ⟨w', hrun, r1, r2⟩ := h.drop hκ K1 ht hkey o.type
  unfold Oper.wp
  simp [execOp, hop, resolve, invoke, builtin, hm, hx, hrun, Result.andThen]
  exact hK w' r1 r2
/-- As many as there are bound it. -/
theorem MapK.tight {X : Type} {P : Program} {kt : TypeId} {κ : X → Lit} {w : World} {b n : Nat} {g : X → Option Value} {sz : Nat} (h : MapK P kt κ w b n g sz) : MapK P kt κ w b sz g sz := by
  obtain ⟨D, ⟨es, clock, hb, F, hs, hD⟩, h2, h3⟩ := h
  refine ⟨D, ⟨es, clock, hb, F, ?_, hD⟩, h2, h3⟩
  rw [← h3, hD]
  simp [Maps.size, length_sorted]
/-- Keys that are ints. -/
def kInt (x : Int) : Lit := .int .i64 x
theorem kInt_inj (x y : Int) (h : kInt x = kInt y) : x = y := by unfold kInt at h; injection h
theorem keyI {P : Program} {kt : TypeId} (hk : P.underlying kt = some (.int .i64)) {a : Int} (h0 : -9223372036854775808 ≤ a) (h1 : a ≤ 9223372036854775807) : keyOf P kt (.int .i64 a) = some (kInt a) :=
  Maps.keyOf_int_mk hk (by simp [Lit.wf, IntKind.min, IntKind.max, IntKind.bits, IntKind.signed]; omega)
end Go.Proofs.Ytcklafaoijodbaa
