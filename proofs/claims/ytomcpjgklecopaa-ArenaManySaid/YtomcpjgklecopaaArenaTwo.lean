/- Two arenas, a row of handles and a map beside them: what each step leaves of the four. -/
import Derived.Test.YtomcpjgklecopaaArenaHeld
import Derived.Test.YtomcpjgklecopaaMapK
set_option linter.unusedVariables false
namespace Go.Proofs.Ytomcpjgklecopaa
open Go Go.RowKit

structure TwoM (C : ArSpec) (w0 : World) (B1 N1 B2 N2 n : Nat) (w : World) (vL : Value) (l fr1 tk1 fr2 tk2 : List H2) (S1 S2 : Nat → Prop) : Prop where
  a1 : C.At w B1 N1 n fr1 tk1 S1
  a2 : C.At w B2 N2 n fr2 tk2 S2
  ap : ∀ k, S1 k → ¬ S2 k
  lo : ∀ k, S1 k ∨ S2 k → w0.heap.size ≤ k
  rL : HRow w w0.heap.size vL l.length l
  nL : ∀ g, vL.ownBlock = some g → ¬ S1 g ∧ ¬ S2 g
  bel : Below w0.heap.size w0 w
section
variable {C : ArSpec} {w0 : World} {B1 N1 B2 N2 n : Nat} {w w' : World} {vL : Value} {l fr1 tk1 fr2 tk2 : List H2} {S1 S2 : Nat → Prop}
theorem TwoM.below (h : TwoM C w0 B1 N1 B2 N2 n w vL l fr1 tk1 fr2 tk2 S1 S2) (hb : Below w.heap.size w w') : TwoM C w0 B1 N1 B2 N2 n w' vL l fr1 tk1 fr2 tk2 S1 S2 :=
  ⟨C.below h.a1 hb, C.below h.a2 hb, h.ap, h.lo, h.rL.only (S := NoB) (Below.only hb) (fun _ _ h => h), h.nL, h.bel.trans (hb.mono h.bel.size)⟩
theorem TwoM.alloc (h : TwoM C w0 B1 N1 B2 N2 n w vL l fr1 tk1 fr2 tk2 S1 S2) (o : Obj) : TwoM C w0 B1 N1 B2 N2 n (w.alloc o) vL l fr1 tk1 fr2 tk2 S1 S2 :=
  h.below ((Below.refl _ _).alloc (Nat.le_refl _) o)
theorem TwoM.move1 (h : TwoM C w0 B1 N1 B2 N2 n w vL l fr1 tk1 fr2 tk2 S1 S2) {fr' tk' : List H2} {S' : Nat → Prop} (ha : C.At w' B1 N1 n fr' tk' S') (m : Moved S1 S' w w') : TwoM C w0 B1 N1 B2 N2 n w' vL l fr' tk' fr2 tk2 S' S2 := by
  have nS : ∀ g, g < w.heap.size → ¬ S1 g → ¬ S' g := fun g hg hn hs => (m.2 g hs).elim hn (fun h => by omega)
  refine ⟨ha, C.only h.a2 m.1 (fun k hk hs => h.ap k hs hk), fun k hk h2 => ?_, fun k hk => ?_, h.rL.only m.1 (fun g hg => (h.nL g hg).1), fun g hg => ⟨nS g (h.rL.lt g hg).2 (h.nL g hg).1, (h.nL g hg).2⟩, h.bel.trans (m.1.below h.bel.size (fun k hk => h.lo k (.inl hk)))⟩
  · rcases m.2 k hk with h3 | h3
    · exact h.ap k h3 h2
    · have := (C.foot h.a2 k h2).2; omega
  · rcases hk with hk | hk
    · rcases m.2 k hk with h3 | h3
      · exact h.lo k (.inl h3)
      · exact Nat.le_trans h.bel.size h3
    · exact h.lo k (.inr hk)
theorem TwoM.swap (h : TwoM C w0 B1 N1 B2 N2 n w vL l fr1 tk1 fr2 tk2 S1 S2) : TwoM C w0 B2 N2 B1 N1 n w vL l fr2 tk2 fr1 tk1 S2 S1 :=
  ⟨h.a2, h.a1, fun k h2 h1 => h.ap k h1 h2, fun k hk => h.lo k hk.symm, h.rL, fun g hg => (h.nL g hg).symm, h.bel⟩
theorem TwoM.move2 (h : TwoM C w0 B1 N1 B2 N2 n w vL l fr1 tk1 fr2 tk2 S1 S2) {fr' tk' : List H2} {S' : Nat → Prop} (ha : C.At w' B2 N2 n fr' tk' S') (m : Moved S2 S' w w') : TwoM C w0 B1 N1 B2 N2 n w' vL l fr1 tk1 fr' tk' S1 S' := (h.swap.move1 ha m).swap
/-- Another row beside them. -/
theorem TwoM.row (h : TwoM C w0 B1 N1 B2 N2 n w vL l fr1 tk1 fr2 tk2 S1 S2) {v : Value} {z : List H2} (hr : HRow w w0.heap.size v z.length z) (hn : ∀ g, v.ownBlock = some g → ¬ S1 g ∧ ¬ S2 g) : TwoM C w0 B1 N1 B2 N2 n w v z fr1 tk1 fr2 tk2 S1 S2 :=
  ⟨h.a1, h.a2, h.ap, h.lo, hr, hn, h.bel⟩
theorem TwoM.foot (h : TwoM C w0 B1 N1 B2 N2 n w vL l fr1 tk1 fr2 tk2 S1 S2) : ∀ k, S1 k ∨ S2 k → k < w.heap.size := fun k hk => hk.elim (fun h1 => (C.foot h.a1 k h1).2) (fun h2 => (C.foot h.a2 k h2).2)
end
theorem intKeyed : Maps.Keyed Try.prog 3 := Maps.int_keyed Try.underlying3
theorem boolZero (w : World) : (zeroValue 4).run Try.prog w = .ok (.bool false) w := by kernel_rfl
set_option maxRecDepth 100000 in
theorem idx_hand (ae : Addr) (q c x : Nat) (h : x < q) (W : World) : (Instr.indexAt 30 (.slice (some ae) q c) (.int .i64 (x : Int))).run Try.prog W = .ok (.pointer (some (ae.add (x * 2)))) W := by
  have e : Try.prog.underlying 30 = some (.slice (Try.prog.elem 30)) := by kernel_rfl
  have es : (sizeOf (Try.prog.elem 30)).run Try.prog W = .ok 2 W := by kernel_rfl
  rw [run_indexAt_slice (h := e), if_pos ⟨by omega, by omega⟩, es]
  rfl
/-- .. and a map. -/
structure MapM (w0 : World) (w : World) (S1 S2 : Nat → Prop) (vL : Value) (bm cnt : Nat) (g : Int → Option Value) (sz : Nat) : Prop where
  mp : MapK Try.prog 3 kInt w bm cnt g sz
  n1 : ¬ S1 bm
  n2 : ¬ S2 bm
  nL : vL.ownBlock ≠ some bm
  lo : w0.heap.size ≤ bm
section
variable {w0 w w' : World} {S1 S2 : Nat → Prop} {vL : Value} {bm cnt sz : Nat} {g : Int → Option Value}
theorem MapM.below (h : MapM w0 w S1 S2 vL bm cnt g sz) (hb : Below w.heap.size w w') : MapM w0 w' S1 S2 vL bm cnt g sz := ⟨h.mp.below hb, h.n1, h.n2, h.nL, h.lo⟩
theorem MapM.alloc (h : MapM w0 w S1 S2 vL bm cnt g sz) (o : Obj) : MapM w0 (w.alloc o) S1 S2 vL bm cnt g sz := h.below ((Below.refl _ _).alloc (Nat.le_refl _) o)
theorem MapM.move1 (h : MapM w0 w S1 S2 vL bm cnt g sz) {S' : Nat → Prop} (m : Moved S1 S' w w') : MapM w0 w' S' S2 vL bm cnt g sz :=
  ⟨h.mp.only m.1 h.n1, fun hs => (m.2 bm hs).elim h.n1 (fun h2 => by have := h.mp.lt; omega), h.n2, h.nL, h.lo⟩
theorem MapM.move2 (h : MapM w0 w S1 S2 vL bm cnt g sz) {S' : Nat → Prop} (m : Moved S2 S' w w') : MapM w0 w' S1 S' vL bm cnt g sz :=
  ⟨h.mp.only m.1 h.n2, h.n1, fun hs => (m.2 bm hs).elim h.n2 (fun h2 => by have := h.mp.lt; omega), h.nL, h.lo⟩
end
/-- The map was written. -/
theorem TwoM.stored {C : ArSpec} {w0 : World} {B1 N1 B2 N2 n : Nat} {w w' : World} {vL : Value} {l fr1 tk1 fr2 tk2 : List H2} {S1 S2 : Nat → Prop} {bm cnt sz : Nat} {g : Int → Option Value}
    (h : TwoM C w0 B1 N1 B2 N2 n w vL l fr1 tk1 fr2 tk2 S1 S2) (hm : MapM w0 w S1 S2 vL bm cnt g sz) (ho : Only (fun k => k = bm) w w') : TwoM C w0 B1 N1 B2 N2 n w' vL l fr1 tk1 fr2 tk2 S1 S2 :=
  ⟨C.only h.a1 ho (fun k hk e => by subst e; exact hm.n1 hk), C.only h.a2 ho (fun k hk e => by subst e; exact hm.n2 hk), h.ap, h.lo, h.rL.only ho (fun g hg e => by subst e; exact hm.nL hg), h.nL,
    h.bel.trans (ho.below h.bel.size (fun k hk => by subst hk; exact hm.lo))⟩
/-- What the map holds, and what the arenas hold, of the slots freed. -/
structure ManyI (K : Nat) (fr tk : List H2) (F : List Nat) (g : Int → Option Value) (sz : Nat) : Prop where
  has : ∀ x : Nat, g (x : Int) = if x ∈ F then some (.bool true) else none
  sz_ : sz = F.length
  fr_ : fr.length = F.length
  sum : tk.length + F.length = K
  nod : tk.Nodup
  gens : ∀ z ∈ tk, z.2 = 0
  live : ∀ x : Nat, x < K → x ∉ F → ((x : Int), (0 : Int)) ∈ tk
theorem ManyI.start (K : Nat) : ManyI K [] (slotsR K) [] (fun _ => none) 0 :=
  ⟨fun x => by simp, rfl, rfl, by rw [slotsR_len]; rfl, slotsR_nodup K, fun z hz => slotsR_zero hz, fun x hx _ => by unfold slotsR; exact List.mem_map.2 ⟨x, List.mem_range.2 hx, rfl⟩⟩
theorem ManyI.free {K : Nat} {fr tk : List H2} {F : List Nat} {g : Int → Option Value} {sz : Nat} (h : ManyI K fr tk F g sz) {x : Nat} (hx : x < K) (hn : x ∉ F) :
    ManyI K (bump ((x : Int), 0) :: fr) (tk.filter (fun z => !(decide (z = ((x : Int), 0))))) (x :: F) (putK g (x : Int) (some (.bool true))) (if (g (x : Int)).isSome then sz else sz + 1) := by
  have hl := filter_len h.nod (h.live x hx hn)
  refine ⟨fun y => ?_, ?_, ?_, ?_, h.nod.filter _, fun z hz => h.gens z (List.mem_filter.1 hz).1, fun y hy hny => ?_⟩
  · by_cases e : y = x
    · subst e
      rw [putK_same, if_pos List.mem_cons_self]
    · rw [putK_other _ _ _ _ (by omega), h.has]
      simp [e]
  · rw [h.has, if_neg hn, h.sz_]
    rfl
  · rw [List.length_cons, List.length_cons, h.fr_]
  · rw [List.length_cons]
    have := h.sum
    omega
  · refine List.mem_filter.2 ⟨h.live y hy (fun hf => hny (List.mem_cons_of_mem _ hf)), ?_⟩
    have : ((y : Int), (0 : Int)) ≠ ((x : Int), 0) := fun e => by
      injection e with e _
      exact hny (by rw [show y = x from by omega]; exact List.mem_cons_self)
    simp only [this, decide_false, Bool.not_false]
end Go.Proofs.Ytomcpjgklecopaa
