/- Number and String, and a panic that the law catches. -/
import Derived.Test.YtkimibppfniejaaDoorValThing
import Derived.WalkSmall
import Derived.Tactics2
import Derived.Defers
import Derived.Recover
import Derived.Laws.Pointers
import Derived.Deep.RegionHeld3
import Derived.Deep.RegionWith
set_option linter.unusedVariables false
namespace Go.Proofs.YtkimibppfniejaaDoor
open Go Go.RowKit

/-! ### Number, String -/
theorem elem_tae : ∃ E, ∀ w, (elemOf 15).run Tryd.prog w = .ok E w := ⟨_, fun w => by simp [elemOf, go_sem]; rfl⟩
def PanicV (w : World) (e : Ending) (w' : World) : Prop := (∃ pv, e = .panicked [{ v := .iface 15 pv, recovered := false }]) ∧ Below w.heap.size w w'

set_option maxHeartbeats 1000000 in
set_option maxRecDepth 100000 in
theorem number_ok (k n : Int) (s : ByteArray) (w : World) (h : isIntV k s = true) :
    Calls Tryd.prog 25 #[valV k n s] w fun e w' => e = .returned (.int .i64 n) ∧ Below w.heap.size w w' := by
  have hT := fun W => thing_any k n s W
  have h0 : thing0 k n s = numT n := by unfold thing0; rw [h]; rfl
  rw [h0] at hT
  have HT := Lib.hid hT
  have hb0 : Below w.heap.size w (w.alloc (.cells #[.int .i64 k, .int .i64 n, .string s] 23)) := (Below.refl _ _).alloc (Nat.le_refl _) _
  clear hT h h0
  unfold valV at HT ⊢
  unfold numT at HT
  have hA : ∀ W : World, (Instr.typeAssert (.iface 3 (.int .i64 n)) 20 3 false).run Tryd.prog W = .ok (.int .i64 n) W := fun W => by simp [Instr.typeAssert, go_sem]
  go_enter Tryd.func25, Tryd.ntmps25
  go_wp2_with fail
  refine (HT.out _).mono ?_
  rintro e w1 ⟨rfl, b1⟩
  go_wp2_with fail
  go_ret
  exact ⟨rfl, btV hb0 b1⟩

set_option maxHeartbeats 1000000 in
set_option maxRecDepth 100000 in
theorem number_no (k n : Int) (s : ByteArray) (w : World) (h : isIntV k s = false) :
    Calls Tryd.prog 25 #[valV k n s] w (PanicV w) := by
  have hT := fun W => thing_any k n s W
  obtain ⟨E, hE⟩ := elem_tae
  have hb0 : Below w.heap.size w (w.alloc (.cells #[.int .i64 k, .int .i64 n, .string s] 23)) := (Below.refl _ _).alloc (Nat.le_refl _) _
  cases h2 : isTextV k n s with
  | true =>
    have h0 : thing0 k n s = strT s := by unfold thing0; rw [h, h2]; rfl
    rw [h0] at hT
    have HT := Lib.hid hT
    clear hT h h0 h2
    unfold valV at HT ⊢
    unfold strT at HT
    have hA : ∀ W : World, (Instr.typeAssert (.iface 9 (.string s)) 20 3 false).run Tryd.prog W = .halt (.panic (.iface 15 (.pointer (some ⟨W.heap.size, 0, none⟩)))) (W.alloc (.cells #[typeHandle Tryd.prog 20, typeHandle Tryd.prog 9, typeHandle Tryd.prog 3, strVal ""] E)) := fun W => by
      simp [Instr.typeAssert, go_sem, runtimePanic, hE]
    go_enter Tryd.func25, Tryd.ntmps25
    go_wp2_with fail
    refine (HT.out _).mono ?_
    rintro e w1 ⟨rfl, b1⟩
    go_wp2_with fail
    exact ⟨rfl, ⟨_, rfl⟩, (btV hb0 b1).alloc (btV hb0 b1).size _⟩
  | false =>
    have h0 : thing0 k n s = .nilIface := by unfold thing0; rw [h, h2]; rfl
    rw [h0] at hT
    have HT := Lib.hid hT
    clear hT h h0 h2
    unfold valV at HT ⊢
    have hA : ∀ W : World, (Instr.typeAssert .nilIface 20 3 false).run Tryd.prog W = .halt (.panic (.iface 15 (.pointer (some ⟨W.heap.size, 0, none⟩)))) (W.alloc (.cells #[typeHandle Tryd.prog 20, .pointer none, typeHandle Tryd.prog 3, strVal ""] E)) := fun W => by
      simp [Instr.typeAssert, go_sem, runtimePanic, hE]
    go_enter Tryd.func25, Tryd.ntmps25
    go_wp2_with fail
    refine (HT.out _).mono ?_
    rintro e w1 ⟨rfl, b1⟩
    go_wp2_with fail
    exact ⟨rfl, ⟨_, rfl⟩, (btV hb0 b1).alloc (btV hb0 b1).size _⟩
theorem text_notInt {k n : Int} {s : ByteArray} (h : isTextV k n s = true) : isIntV k s = false := by
  unfold isTextV at h
  simp at h
  unfold isIntV
  rw [h.1.1]
  rfl
set_option maxHeartbeats 1000000 in
set_option maxRecDepth 100000 in
theorem string_ok (k n : Int) (s : ByteArray) (w : World) (h : isTextV k n s = true) :
    Calls Tryd.prog 32 #[valV k n s] w fun e w' => e = .returned (.string s) ∧ Below w.heap.size w w' := by
  have hT := fun W => thing_any k n s W
  have h0 : thing0 k n s = strT s := by unfold thing0; rw [text_notInt h, h]; rfl
  rw [h0] at hT
  have HT := Lib.hid hT
  have hb0 : Below w.heap.size w (w.alloc (.cells #[.int .i64 k, .int .i64 n, .string s] 23)) := (Below.refl _ _).alloc (Nat.le_refl _) _
  clear hT h h0
  unfold valV at HT ⊢
  unfold strT at HT
  have hA : ∀ W : World, (Instr.typeAssert (.iface 9 (.string s)) 20 9 false).run Tryd.prog W = .ok (.string s) W := fun W => by simp [Instr.typeAssert, go_sem]
  go_enter Tryd.func32, Tryd.ntmps32
  go_wp2_with fail
  refine (HT.out _).mono ?_
  rintro e w1 ⟨rfl, b1⟩
  go_wp2_with fail
  go_ret
  exact ⟨rfl, btV hb0 b1⟩

set_option maxHeartbeats 1000000 in
set_option maxRecDepth 100000 in
theorem string_no (k n : Int) (s : ByteArray) (w : World) (h : isTextV k n s = false) :
    Calls Tryd.prog 32 #[valV k n s] w (PanicV w) := by
  have hT := fun W => thing_any k n s W
  obtain ⟨E, hE⟩ := elem_tae
  have hb0 : Below w.heap.size w (w.alloc (.cells #[.int .i64 k, .int .i64 n, .string s] 23)) := (Below.refl _ _).alloc (Nat.le_refl _) _
  cases h2 : isIntV k s with
  | true =>
    have h0 : thing0 k n s = numT n := by unfold thing0; rw [h2]; rfl
    rw [h0] at hT
    have HT := Lib.hid hT
    clear hT h h0 h2
    unfold valV at HT ⊢
    unfold numT at HT
    have hA : ∀ W : World, (Instr.typeAssert (.iface 3 (.int .i64 n)) 20 9 false).run Tryd.prog W = .halt (.panic (.iface 15 (.pointer (some ⟨W.heap.size, 0, none⟩)))) (W.alloc (.cells #[typeHandle Tryd.prog 20, typeHandle Tryd.prog 3, typeHandle Tryd.prog 9, strVal ""] E)) := fun W => by
      simp [Instr.typeAssert, go_sem, runtimePanic, hE]
    go_enter Tryd.func32, Tryd.ntmps32
    go_wp2_with fail
    refine (HT.out _).mono ?_
    rintro e w1 ⟨rfl, b1⟩
    go_wp2_with fail
    exact ⟨rfl, ⟨_, rfl⟩, (btV hb0 b1).alloc (btV hb0 b1).size _⟩
  | false =>
    have h0 : thing0 k n s = .nilIface := by unfold thing0; rw [h2, h]; rfl
    rw [h0] at hT
    have HT := Lib.hid hT
    clear hT h h0 h2
    unfold valV at HT ⊢
    have hA : ∀ W : World, (Instr.typeAssert .nilIface 20 9 false).run Tryd.prog W = .halt (.panic (.iface 15 (.pointer (some ⟨W.heap.size, 0, none⟩)))) (W.alloc (.cells #[typeHandle Tryd.prog 20, .pointer none, typeHandle Tryd.prog 9, strVal ""] E)) := fun W => by
      simp [Instr.typeAssert, go_sem, runtimePanic, hE]
    go_enter Tryd.func32, Tryd.ntmps32
    go_wp2_with fail
    refine (HT.out _).mono ?_
    rintro e w1 ⟨rfl, b1⟩
    go_wp2_with fail
    exact ⟨rfl, ⟨_, rfl⟩, (btV hb0 b1).alloc (btV hb0 b1).size _⟩

/-! ### broke: a panic that is caught -/
theorem catch_panicking (p : Addr) (x : Bool) (u : TypeId) (pv : Value) (older : List PanicEntry) (w : World) (hc : w.cell? p = some (.bool x)) (hz : w.frozen? p = false) :
    CallsD Tryd.prog 31 #[.pointer (some p)] (.panicking ({ v := .iface u pv, recovered := false } :: older)) w fun e u' w' =>
      e = .returned (.tuple #[]) ∧ u' = .panicking ({ v := .iface u pv, recovered := true } :: older) ∧ w' = w.setCell p (.bool true) := by
  refine callsD_of_wpS Tryd.func31 rfl fun c₀ cs hu => ?_
  apply wpS_seq
  apply wpS_region
  simp [wpOpsS, go_sem, recoverD, hu, Tryd.ntmps31, Exit.thenS]
  refine wpS_cond (t := true) (by simp [Act.eval, Array.replicate]) ?_
  simp only [if_true]
  apply wpS_region
  simp [wpOpsS, go_sem, hc, hz, bodyPostS, results, Tryd.results31]
theorem catch_idle (p : Addr) (w : World) :
    CallsD Tryd.prog 31 #[.pointer (some p)] .returning w fun e u' w' => e = .returned (.tuple #[]) ∧ u' = .returning ∧ w' = w := by
  refine callsD_of_wpS Tryd.func31 rfl fun c₀ cs hu => ?_
  apply wpS_seq
  apply wpS_region
  simp [wpOpsS, go_sem, recoverD, hu, Tryd.ntmps31, Exit.thenS]
  refine wpS_cond (t := false) (by simp [Act.eval, Array.replicate]) ?_
  simp only [Bool.false_eq_true, if_false]
  refine wpS_of_wp (wp_skip ?_)
  cases c₀
  simp_all [bodyPostS, results, Tryd.results31]

/-- Where broke answers: a bool in a cell of its own. -/
structure BoolAt (W : World) (N : Nat) : Prop where
  c0 : ∃ b : Bool, W.cell? { block := N, off := 0 } = some (.bool b)
  f0 : W.frozen? { block := N, off := 0 } = false
theorem BoolAt.block {W W' : World} {N : Nat} (h : BoolAt W N) (e : W'.heap[N]? = W.heap[N]?) : BoolAt W' N :=
  ⟨h.c0.imp fun b hb => (World.cell?_of_block e).trans hb, (World.frozen?_of_block e).trans h.f0⟩
theorem broke_start (w : World) (k n : Int) (s : ByteArray) : ∃ W0, ((w.alloc (.cells #[.int .i64 k, .int .i64 n, .string s] 23)).alloc (.cells #[.bool false] 4)) = W0 ∧ Box W0 w.heap.size k n s ∧ BoolAt W0 (w.heap.size + 1) ∧ Below w.heap.size w W0 ∧ W0.heap.size = w.heap.size + 2 := by
  refine ⟨_, rfl, (Box.new w k n s).block (Lib.alloc_old _ _ _ (by simp)), ⟨⟨false, ?_⟩, ?_⟩, ((Below.refl _ _).alloc (Nat.le_refl _) _).alloc (by simp) _, by simp⟩
  · simp
  · have := heap_alloc_new (w.alloc (.cells #[.int .i64 k, .int .i64 n, .string s] 23)) (.cells #[.bool false] 4)
    simp at this
    unfold World.frozen?
    simp [this]

theorem door_panic {w W : World} {N : Nat} {pv : Value} {u : TypeId} {tmps : Array Value} (ht : tmps[4]? = some (.pointer (some ⟨N, 0, none⟩))) (hba : BoolAt W N) (hb : Below w.heap.size w W) (hN : w.heap.size ≤ N) :
    Leaves Tryd.prog Tryd.f13 tmps (fun e w' => e = .returned (.bool true) ∧ Below w.heap.size w w') [{ target := .fn (.func 31) #[.pointer (some ⟨N, 0, none⟩)], args := #[] }] (.panicking [{ v := .iface u pv, recovered := false }]) W := by
  obtain ⟨b, hc⟩ := hba.c0
  refine leaves_cons (f := 31) (args := #[.pointer (some ⟨N, 0, none⟩)]) (by simp) (by simp [go_sem]) ?_
  refine (catch_panicking ⟨N, 0, none⟩ b u pv [] W hc hba.f0).mono ?_
  rintro e u' w'' ⟨rfl, rfl, rfl⟩
  have hs := World.cell?_setCell_same W ⟨N, 0, none⟩ (.bool true) hc
  refine ⟨.bool true, ?_, rfl, hb.setCell (p := ⟨N, 0, none⟩) hN _⟩
  simp [results, Tryd.results13, go_sem, ht, hs]
theorem door_ret {w W : World} {N : Nat} {b : Bool} {tmps : Array Value} (ht : tmps[4]? = some (.pointer (some ⟨N, 0, none⟩))) (hc : W.cell? ⟨N, 0, none⟩ = some (.bool b)) (hb : Below w.heap.size w W) :
    Leaves Tryd.prog Tryd.f13 tmps (fun e w' => e = .returned (.bool b) ∧ Below w.heap.size w w') [{ target := .fn (.func 31) #[.pointer (some ⟨N, 0, none⟩)], args := #[] }] .returning W := by
  refine leaves_cons (f := 31) (args := #[.pointer (some ⟨N, 0, none⟩)]) (by simp) (by simp [go_sem]) ?_
  refine (catch_idle ⟨N, 0, none⟩ W).mono ?_
  rintro e u' w'' ⟨rfl, rfl, rfl⟩
  refine ⟨.bool b, ?_, rfl, hb⟩
  simp [results, Tryd.results13, go_sem, ht, hc]

set_option maxHeartbeats 2000000 in
set_option maxRecDepth 100000 in
theorem broke_string_no (k n : Int) (s : ByteArray) (w : World) (h : isTextV k n s = false) :
    Calls Tryd.prog 13 #[valV k n s, .bool true] w fun e w' => e = .returned (.bool true) ∧ Below w.heap.size w w' := by
  have hmf : ∀ (fn : Fn) (first cap : Array Value) (w : World), (Instr.makeFunc fn first cap).run Tryd.prog w = .ok (.func fn first cap) w := fun _ _ _ _ => rfl
  have hS := fun W => string_no k n s W h
  have HS := Lib.hid hS
  clear hS h
  unfold valV at HS ⊢
  obtain ⟨W0, hW0, hbx, hba, hb0, hsz0⟩ := broke_start w k n s
  go_enter_defers Tryd.func13, Tryd.ntmps13
  go_wp2_with fail
  subst hW0
  have c0 := hbx.c0
  have c1 := hbx.c1
  have c2 := hbx.c2
  have hD : ∀ (w1 : World) (tmps : Array Value) (pv : Value), tmps[4]? = some (.pointer (some ⟨w.heap.size + 1, 0, none⟩)) → Below ((w.alloc (.cells #[.int .i64 k, .int .i64 n, .string s] 23)).alloc (.cells #[.bool false] 4)).drew.heap.size ((w.alloc (.cells #[.int .i64 k, .int .i64 n, .string s] 23)).alloc (.cells #[.bool false] 4)).drew w1 →
      Leaves Tryd.prog Tryd.f13 tmps (fun e w' => e = .returned (.bool true) ∧ Below w.heap.size w w') [{ target := .fn (.func 31) #[.pointer (some ⟨w.heap.size + 1, 0, none⟩)], args := #[] }] (.panicking [{ v := .iface 15 pv, recovered := false }]) w1 := fun w1 tmps pv ht hb =>
    door_panic ht (hba.block (hb.block (w.heap.size + 1) (by simp [World.drew]))) (btV hb0.drew hb) (by omega)
  refine wp_region_any (by kernel_rfl) ?_
  change wpAny _ _ _ _ _ _ _ (World.drew _)
  refine wpAny_ready (rs := [0, 2]) (by kernel_rfl) (by simp) ?_
  refine (AllReady.cons rfl (fun K hK => ?_) (AllReady.cons rfl (fun K hK => ?_) AllReady.nil))
  · go_simp
    refine hK _ _ ?_
    clear hK K
    refine wpAny_ready (rs := [1, 2]) (by kernel_rfl) (by simp) ?_
    refine (AllReady.cons rfl (fun K hK => ?_) (AllReady.cons rfl (fun K hK => ?_) AllReady.nil))
    · go_simp
      go_at_call 32
      refine (HS.out _).mono ?_
      rintro e w1 ⟨⟨pv, rfl⟩, b1⟩
      exact hD _ _ _ rfl b1
    · go_simp
      refine hK _ _ ?_
      clear hK K
      refine wpAny_ready (rs := [1, 3]) (by kernel_rfl) (by simp) ?_
      refine (AllReady.cons rfl (fun K hK => ?_) (AllReady.cons rfl (fun K hK => ?_) AllReady.nil))
      · go_simp
        go_at_call 32
        refine (HS.out _).mono ?_
        rintro e w1 ⟨⟨pv, rfl⟩, b1⟩
        exact hD _ _ _ rfl b1
      · go_simp
        refine hK _ _ ?_
        clear hK K
        refine wpAny_ready (rs := [1]) (by kernel_rfl) (by simp) ?_
        refine (AllReady.cons rfl (fun K hK => ?_) AllReady.nil)
        · go_simp
          go_at_call 32
          refine (HS.out _).mono ?_
          rintro e w1 ⟨⟨pv, rfl⟩, b1⟩
          exact hD _ _ _ rfl b1
  · go_simp
    refine hK _ _ ?_
    clear hK K
    refine wpAny_ready (rs := [0, 3]) (by kernel_rfl) (by simp) ?_
    refine (AllReady.cons rfl (fun K hK => ?_) (AllReady.cons rfl (fun K hK => ?_) AllReady.nil))
    · go_simp
      refine hK _ _ ?_
      clear hK K
      refine wpAny_ready (rs := [1, 3]) (by kernel_rfl) (by simp) ?_
      refine (AllReady.cons rfl (fun K hK => ?_) (AllReady.cons rfl (fun K hK => ?_) AllReady.nil))
      · go_simp
        go_at_call 32
        refine (HS.out _).mono ?_
        rintro e w1 ⟨⟨pv, rfl⟩, b1⟩
        exact hD _ _ _ rfl b1
      · go_simp
        refine hK _ _ ?_
        clear hK K
        refine wpAny_ready (rs := [1]) (by kernel_rfl) (by simp) ?_
        refine (AllReady.cons rfl (fun K hK => ?_) AllReady.nil)
        · go_simp
          go_at_call 32
          refine (HS.out _).mono ?_
          rintro e w1 ⟨⟨pv, rfl⟩, b1⟩
          exact hD _ _ _ rfl b1
    · go_simp
      refine hK _ _ ?_
      clear hK K
      refine wpAny_ready (rs := [0]) (by kernel_rfl) (by simp) ?_
      refine (AllReady.cons rfl (fun K hK => ?_) AllReady.nil)
      · go_simp
        refine hK _ _ ?_
        clear hK K
        refine wpAny_ready (rs := [1]) (by kernel_rfl) (by simp) ?_
        refine (AllReady.cons rfl (fun K hK => ?_) AllReady.nil)
        · go_simp
          go_at_call 32
          refine (HS.out _).mono ?_
          rintro e w1 ⟨⟨pv, rfl⟩, b1⟩
          exact hD _ _ _ rfl b1
set_option maxHeartbeats 2000000 in
set_option maxRecDepth 100000 in
theorem broke_string_ok (k n : Int) (s : ByteArray) (w : World) (h : isTextV k n s = true) :
    Calls Tryd.prog 13 #[valV k n s, .bool true] w fun e w' => e = .returned (.bool false) ∧ Below w.heap.size w w' := by
  have hmf : ∀ (fn : Fn) (first cap : Array Value) (w : World), (Instr.makeFunc fn first cap).run Tryd.prog w = .ok (.func fn first cap) w := fun _ _ _ _ => rfl
  have hS := fun W => string_ok k n s W h
  have HS := Lib.hid hS
  clear hS h
  unfold valV at HS ⊢
  obtain ⟨W0, hW0, hbx, hba, hb0, hsz0⟩ := broke_start w k n s
  go_enter_defers Tryd.func13, Tryd.ntmps13
  go_wp2_with fail
  subst hW0
  have c0 := hbx.c0
  have c1 := hbx.c1
  have c2 := hbx.c2
  have hD : ∀ (w1 : World), Below ((w.alloc (.cells #[.int .i64 k, .int .i64 n, .string s] 23)).alloc (.cells #[.bool false] 4)).drew.heap.size ((w.alloc (.cells #[.int .i64 k, .int .i64 n, .string s] 23)).alloc (.cells #[.bool false] 4)).drew w1 →
      Box w1 w.heap.size k n s ∧ BoolAt w1 (w.heap.size + 1) ∧ Below w.heap.size w w1 := fun w1 hb =>
    ⟨hbx.block (hb.block w.heap.size (by simp [World.drew]; omega)), hba.block (hb.block (w.heap.size + 1) (by simp [World.drew])), btV hb0.drew hb⟩
  refine wp_region_any (by kernel_rfl) ?_
  change wpAny _ _ _ _ _ _ _ (World.drew _)
  refine wpAny_ready (rs := [0, 2]) (by kernel_rfl) (by simp) ?_
  refine (AllReady.cons rfl (fun K hK => ?_) (AllReady.cons rfl (fun K hK => ?_) AllReady.nil))
  · go_simp
    refine hK _ _ ?_
    clear hK K
    refine wpAny_ready (rs := [1, 2]) (by kernel_rfl) (by simp) ?_
    refine (AllReady.cons rfl (fun K hK => ?_) (AllReady.cons rfl (fun K hK => ?_) AllReady.nil))
    · go_simp
      go_at_call 32
      refine (HS.out _).mono ?_
      rintro e w1 ⟨rfl, b1⟩
      obtain ⟨⟨d0, d1, d2⟩, ⟨⟨bb, db⟩, df⟩, b2⟩ := hD _ b1
      refine hK _ _ ?_
      clear hK K
      refine wpAny_ready (rs := [2]) (by kernel_rfl) (by simp) ?_
      refine (AllReady.cons rfl (fun K hK => ?_) AllReady.nil)
      · go_simp
        refine hK _ _ ?_
        clear hK K
        refine wpAny_ready (rs := [3]) (by kernel_rfl) (by simp) ?_
        refine (AllReady.cons rfl (fun K hK => ?_) AllReady.nil)
        · go_simp
          refine hK _ _ ?_
          clear hK K
          refine wpAny_ready (rs := [4]) (by kernel_rfl) (by simp) ?_
          refine (AllReady.cons rfl (fun K hK => ?_) AllReady.nil)
          · go_simp
            refine hK _ _ ?_
            clear hK K
            refine wpAny_ready (rs := [5]) (by kernel_rfl) (by simp) ?_
            refine (AllReady.cons rfl (fun K hK => ?_) AllReady.nil)
            · go_simp
              refine hK _ _ ?_
              clear hK K
              refine wpAny_done (by kernel_rfl) ?_ _
              go_wp2_with fail
              exact door_ret rfl (World.cell?_setCell_same _ _ _ db) (b2.setCell (p := ⟨w.heap.size + 1, 0, none⟩) (Nat.le_succ _) _)
    · go_simp
      refine hK _ _ ?_
      clear hK K
      refine wpAny_ready (rs := [1, 3]) (by kernel_rfl) (by simp) ?_
      refine (AllReady.cons rfl (fun K hK => ?_) (AllReady.cons rfl (fun K hK => ?_) AllReady.nil))
      · go_simp
        go_at_call 32
        refine (HS.out _).mono ?_
        rintro e w1 ⟨rfl, b1⟩
        obtain ⟨⟨d0, d1, d2⟩, ⟨⟨bb, db⟩, df⟩, b2⟩ := hD _ b1
        refine hK _ _ ?_
        clear hK K
        refine wpAny_ready (rs := [3]) (by kernel_rfl) (by simp) ?_
        refine (AllReady.cons rfl (fun K hK => ?_) AllReady.nil)
        · go_simp
          refine hK _ _ ?_
          clear hK K
          refine wpAny_ready (rs := [4]) (by kernel_rfl) (by simp) ?_
          refine (AllReady.cons rfl (fun K hK => ?_) AllReady.nil)
          · go_simp
            refine hK _ _ ?_
            clear hK K
            refine wpAny_ready (rs := [5]) (by kernel_rfl) (by simp) ?_
            refine (AllReady.cons rfl (fun K hK => ?_) AllReady.nil)
            · go_simp
              refine hK _ _ ?_
              clear hK K
              refine wpAny_done (by kernel_rfl) ?_ _
              go_wp2_with fail
              exact door_ret rfl (World.cell?_setCell_same _ _ _ db) (b2.setCell (p := ⟨w.heap.size + 1, 0, none⟩) (Nat.le_succ _) _)
      · go_simp
        refine hK _ _ ?_
        clear hK K
        refine wpAny_ready (rs := [1]) (by kernel_rfl) (by simp) ?_
        refine (AllReady.cons rfl (fun K hK => ?_) AllReady.nil)
        · go_simp
          go_at_call 32
          refine (HS.out _).mono ?_
          rintro e w1 ⟨rfl, b1⟩
          obtain ⟨⟨d0, d1, d2⟩, ⟨⟨bb, db⟩, df⟩, b2⟩ := hD _ b1
          refine hK _ _ ?_
          clear hK K
          refine wpAny_ready (rs := [4]) (by kernel_rfl) (by simp) ?_
          refine (AllReady.cons rfl (fun K hK => ?_) AllReady.nil)
          · go_simp
            refine hK _ _ ?_
            clear hK K
            refine wpAny_ready (rs := [5]) (by kernel_rfl) (by simp) ?_
            refine (AllReady.cons rfl (fun K hK => ?_) AllReady.nil)
            · go_simp
              refine hK _ _ ?_
              clear hK K
              refine wpAny_done (by kernel_rfl) ?_ _
              go_wp2_with fail
              exact door_ret rfl (World.cell?_setCell_same _ _ _ db) (b2.setCell (p := ⟨w.heap.size + 1, 0, none⟩) (Nat.le_succ _) _)
  · go_simp
    refine hK _ _ ?_
    clear hK K
    refine wpAny_ready (rs := [0, 3]) (by kernel_rfl) (by simp) ?_
    refine (AllReady.cons rfl (fun K hK => ?_) (AllReady.cons rfl (fun K hK => ?_) AllReady.nil))
    · go_simp
      refine hK _ _ ?_
      clear hK K
      refine wpAny_ready (rs := [1, 3]) (by kernel_rfl) (by simp) ?_
      refine (AllReady.cons rfl (fun K hK => ?_) (AllReady.cons rfl (fun K hK => ?_) AllReady.nil))
      · go_simp
        go_at_call 32
        refine (HS.out _).mono ?_
        rintro e w1 ⟨rfl, b1⟩
        obtain ⟨⟨d0, d1, d2⟩, ⟨⟨bb, db⟩, df⟩, b2⟩ := hD _ b1
        refine hK _ _ ?_
        clear hK K
        refine wpAny_ready (rs := [3]) (by kernel_rfl) (by simp) ?_
        refine (AllReady.cons rfl (fun K hK => ?_) AllReady.nil)
        · go_simp
          refine hK _ _ ?_
          clear hK K
          refine wpAny_ready (rs := [4]) (by kernel_rfl) (by simp) ?_
          refine (AllReady.cons rfl (fun K hK => ?_) AllReady.nil)
          · go_simp
            refine hK _ _ ?_
            clear hK K
            refine wpAny_ready (rs := [5]) (by kernel_rfl) (by simp) ?_
            refine (AllReady.cons rfl (fun K hK => ?_) AllReady.nil)
            · go_simp
              refine hK _ _ ?_
              clear hK K
              refine wpAny_done (by kernel_rfl) ?_ _
              go_wp2_with fail
              exact door_ret rfl (World.cell?_setCell_same _ _ _ db) (b2.setCell (p := ⟨w.heap.size + 1, 0, none⟩) (Nat.le_succ _) _)
      · go_simp
        refine hK _ _ ?_
        clear hK K
        refine wpAny_ready (rs := [1]) (by kernel_rfl) (by simp) ?_
        refine (AllReady.cons rfl (fun K hK => ?_) AllReady.nil)
        · go_simp
          go_at_call 32
          refine (HS.out _).mono ?_
          rintro e w1 ⟨rfl, b1⟩
          obtain ⟨⟨d0, d1, d2⟩, ⟨⟨bb, db⟩, df⟩, b2⟩ := hD _ b1
          refine hK _ _ ?_
          clear hK K
          refine wpAny_ready (rs := [4]) (by kernel_rfl) (by simp) ?_
          refine (AllReady.cons rfl (fun K hK => ?_) AllReady.nil)
          · go_simp
            refine hK _ _ ?_
            clear hK K
            refine wpAny_ready (rs := [5]) (by kernel_rfl) (by simp) ?_
            refine (AllReady.cons rfl (fun K hK => ?_) AllReady.nil)
            · go_simp
              refine hK _ _ ?_
              clear hK K
              refine wpAny_done (by kernel_rfl) ?_ _
              go_wp2_with fail
              exact door_ret rfl (World.cell?_setCell_same _ _ _ db) (b2.setCell (p := ⟨w.heap.size + 1, 0, none⟩) (Nat.le_succ _) _)
    · go_simp
      refine hK _ _ ?_
      clear hK K
      refine wpAny_ready (rs := [0]) (by kernel_rfl) (by simp) ?_
      refine (AllReady.cons rfl (fun K hK => ?_) AllReady.nil)
      · go_simp
        refine hK _ _ ?_
        clear hK K
        refine wpAny_ready (rs := [1]) (by kernel_rfl) (by simp) ?_
        refine (AllReady.cons rfl (fun K hK => ?_) AllReady.nil)
        · go_simp
          go_at_call 32
          refine (HS.out _).mono ?_
          rintro e w1 ⟨rfl, b1⟩
          obtain ⟨⟨d0, d1, d2⟩, ⟨⟨bb, db⟩, df⟩, b2⟩ := hD _ b1
          refine hK _ _ ?_
          clear hK K
          refine wpAny_ready (rs := [4]) (by kernel_rfl) (by simp) ?_
          refine (AllReady.cons rfl (fun K hK => ?_) AllReady.nil)
          · go_simp
            refine hK _ _ ?_
            clear hK K
            refine wpAny_ready (rs := [5]) (by kernel_rfl) (by simp) ?_
            refine (AllReady.cons rfl (fun K hK => ?_) AllReady.nil)
            · go_simp
              refine hK _ _ ?_
              clear hK K
              refine wpAny_done (by kernel_rfl) ?_ _
              go_wp2_with fail
              exact door_ret rfl (World.cell?_setCell_same _ _ _ db) (b2.setCell (p := ⟨w.heap.size + 1, 0, none⟩) (Nat.le_succ _) _)
set_option maxHeartbeats 2000000 in
set_option maxRecDepth 100000 in
theorem broke_number_no (k n : Int) (s : ByteArray) (w : World) (h : isIntV k s = false) :
    Calls Tryd.prog 13 #[valV k n s, .bool false] w fun e w' => e = .returned (.bool true) ∧ Below w.heap.size w w' := by
  have hmf : ∀ (fn : Fn) (first cap : Array Value) (w : World), (Instr.makeFunc fn first cap).run Tryd.prog w = .ok (.func fn first cap) w := fun _ _ _ _ => rfl
  have hS := fun W => number_no k n s W h
  have HS := Lib.hid hS
  clear hS h
  unfold valV at HS ⊢
  obtain ⟨W0, hW0, hbx, hba, hb0, hsz0⟩ := broke_start w k n s
  go_enter_defers Tryd.func13, Tryd.ntmps13
  go_wp2_with fail
  subst hW0
  have c0 := hbx.c0
  have c1 := hbx.c1
  have c2 := hbx.c2
  have hD : ∀ (w1 : World) (tmps : Array Value) (pv : Value), tmps[4]? = some (.pointer (some ⟨w.heap.size + 1, 0, none⟩)) → Below ((w.alloc (.cells #[.int .i64 k, .int .i64 n, .string s] 23)).alloc (.cells #[.bool false] 4)).drew.heap.size ((w.alloc (.cells #[.int .i64 k, .int .i64 n, .string s] 23)).alloc (.cells #[.bool false] 4)).drew w1 →
      Leaves Tryd.prog Tryd.f13 tmps (fun e w' => e = .returned (.bool true) ∧ Below w.heap.size w w') [{ target := .fn (.func 31) #[.pointer (some ⟨w.heap.size + 1, 0, none⟩)], args := #[] }] (.panicking [{ v := .iface 15 pv, recovered := false }]) w1 := fun w1 tmps pv ht hb =>
    door_panic ht (hba.block (hb.block (w.heap.size + 1) (by simp [World.drew]))) (btV hb0.drew hb) (by omega)
  refine wp_region_any (by kernel_rfl) ?_
  change wpAny _ _ _ _ _ _ _ (World.drew _)
  refine wpAny_ready (rs := [0, 2]) (by kernel_rfl) (by simp) ?_
  refine (AllReady.cons rfl (fun K hK => ?_) (AllReady.cons rfl (fun K hK => ?_) AllReady.nil))
  · go_simp
    refine hK _ _ ?_
    clear hK K
    refine wpAny_ready (rs := [1, 2]) (by kernel_rfl) (by simp) ?_
    refine (AllReady.cons rfl (fun K hK => ?_) (AllReady.cons rfl (fun K hK => ?_) AllReady.nil))
    · go_simp
      go_at_call 25
      refine (HS.out _).mono ?_
      rintro e w1 ⟨⟨pv, rfl⟩, b1⟩
      exact hD _ _ _ rfl b1
    · go_simp
      refine hK _ _ ?_
      clear hK K
      refine wpAny_ready (rs := [1, 3]) (by kernel_rfl) (by simp) ?_
      refine (AllReady.cons rfl (fun K hK => ?_) (AllReady.cons rfl (fun K hK => ?_) AllReady.nil))
      · go_simp
        go_at_call 25
        refine (HS.out _).mono ?_
        rintro e w1 ⟨⟨pv, rfl⟩, b1⟩
        exact hD _ _ _ rfl b1
      · go_simp
        refine hK _ _ ?_
        clear hK K
        refine wpAny_ready (rs := [1]) (by kernel_rfl) (by simp) ?_
        refine (AllReady.cons rfl (fun K hK => ?_) AllReady.nil)
        · go_simp
          go_at_call 25
          refine (HS.out _).mono ?_
          rintro e w1 ⟨⟨pv, rfl⟩, b1⟩
          exact hD _ _ _ rfl b1
  · go_simp
    refine hK _ _ ?_
    clear hK K
    refine wpAny_ready (rs := [0, 3]) (by kernel_rfl) (by simp) ?_
    refine (AllReady.cons rfl (fun K hK => ?_) (AllReady.cons rfl (fun K hK => ?_) AllReady.nil))
    · go_simp
      refine hK _ _ ?_
      clear hK K
      refine wpAny_ready (rs := [1, 3]) (by kernel_rfl) (by simp) ?_
      refine (AllReady.cons rfl (fun K hK => ?_) (AllReady.cons rfl (fun K hK => ?_) AllReady.nil))
      · go_simp
        go_at_call 25
        refine (HS.out _).mono ?_
        rintro e w1 ⟨⟨pv, rfl⟩, b1⟩
        exact hD _ _ _ rfl b1
      · go_simp
        refine hK _ _ ?_
        clear hK K
        refine wpAny_ready (rs := [1]) (by kernel_rfl) (by simp) ?_
        refine (AllReady.cons rfl (fun K hK => ?_) AllReady.nil)
        · go_simp
          go_at_call 25
          refine (HS.out _).mono ?_
          rintro e w1 ⟨⟨pv, rfl⟩, b1⟩
          exact hD _ _ _ rfl b1
    · go_simp
      refine hK _ _ ?_
      clear hK K
      refine wpAny_ready (rs := [0]) (by kernel_rfl) (by simp) ?_
      refine (AllReady.cons rfl (fun K hK => ?_) AllReady.nil)
      · go_simp
        refine hK _ _ ?_
        clear hK K
        refine wpAny_ready (rs := [1]) (by kernel_rfl) (by simp) ?_
        refine (AllReady.cons rfl (fun K hK => ?_) AllReady.nil)
        · go_simp
          go_at_call 25
          refine (HS.out _).mono ?_
          rintro e w1 ⟨⟨pv, rfl⟩, b1⟩
          exact hD _ _ _ rfl b1
set_option maxHeartbeats 2000000 in
set_option maxRecDepth 100000 in
theorem broke_number_ok (k n : Int) (s : ByteArray) (w : World) (h : isIntV k s = true) :
    Calls Tryd.prog 13 #[valV k n s, .bool false] w fun e w' => e = .returned (.bool false) ∧ Below w.heap.size w w' := by
  have hmf : ∀ (fn : Fn) (first cap : Array Value) (w : World), (Instr.makeFunc fn first cap).run Tryd.prog w = .ok (.func fn first cap) w := fun _ _ _ _ => rfl
  have hS := fun W => number_ok k n s W h
  have HS := Lib.hid hS
  clear hS h
  unfold valV at HS ⊢
  obtain ⟨W0, hW0, hbx, hba, hb0, hsz0⟩ := broke_start w k n s
  go_enter_defers Tryd.func13, Tryd.ntmps13
  go_wp2_with fail
  subst hW0
  have c0 := hbx.c0
  have c1 := hbx.c1
  have c2 := hbx.c2
  have hD : ∀ (w1 : World), Below ((w.alloc (.cells #[.int .i64 k, .int .i64 n, .string s] 23)).alloc (.cells #[.bool false] 4)).drew.heap.size ((w.alloc (.cells #[.int .i64 k, .int .i64 n, .string s] 23)).alloc (.cells #[.bool false] 4)).drew w1 →
      Box w1 w.heap.size k n s ∧ BoolAt w1 (w.heap.size + 1) ∧ Below w.heap.size w w1 := fun w1 hb =>
    ⟨hbx.block (hb.block w.heap.size (by simp [World.drew]; omega)), hba.block (hb.block (w.heap.size + 1) (by simp [World.drew])), btV hb0.drew hb⟩
  refine wp_region_any (by kernel_rfl) ?_
  change wpAny _ _ _ _ _ _ _ (World.drew _)
  refine wpAny_ready (rs := [0, 2]) (by kernel_rfl) (by simp) ?_
  refine (AllReady.cons rfl (fun K hK => ?_) (AllReady.cons rfl (fun K hK => ?_) AllReady.nil))
  · go_simp
    refine hK _ _ ?_
    clear hK K
    refine wpAny_ready (rs := [1, 2]) (by kernel_rfl) (by simp) ?_
    refine (AllReady.cons rfl (fun K hK => ?_) (AllReady.cons rfl (fun K hK => ?_) AllReady.nil))
    · go_simp
      go_at_call 25
      refine (HS.out _).mono ?_
      rintro e w1 ⟨rfl, b1⟩
      obtain ⟨⟨d0, d1, d2⟩, ⟨⟨bb, db⟩, df⟩, b2⟩ := hD _ b1
      refine hK _ _ ?_
      clear hK K
      refine wpAny_ready (rs := [2]) (by kernel_rfl) (by simp) ?_
      refine (AllReady.cons rfl (fun K hK => ?_) AllReady.nil)
      · go_simp
        refine hK _ _ ?_
        clear hK K
        refine wpAny_ready (rs := [3]) (by kernel_rfl) (by simp) ?_
        refine (AllReady.cons rfl (fun K hK => ?_) AllReady.nil)
        · go_simp
          refine hK _ _ ?_
          clear hK K
          refine wpAny_ready (rs := [4]) (by kernel_rfl) (by simp) ?_
          refine (AllReady.cons rfl (fun K hK => ?_) AllReady.nil)
          · go_simp
            refine hK _ _ ?_
            clear hK K
            refine wpAny_ready (rs := [5]) (by kernel_rfl) (by simp) ?_
            refine (AllReady.cons rfl (fun K hK => ?_) AllReady.nil)
            · go_simp
              refine hK _ _ ?_
              clear hK K
              refine wpAny_done (by kernel_rfl) ?_ _
              go_wp2_with fail
              exact door_ret rfl (World.cell?_setCell_same _ _ _ db) (b2.setCell (p := ⟨w.heap.size + 1, 0, none⟩) (Nat.le_succ _) _)
    · go_simp
      refine hK _ _ ?_
      clear hK K
      refine wpAny_ready (rs := [1, 3]) (by kernel_rfl) (by simp) ?_
      refine (AllReady.cons rfl (fun K hK => ?_) (AllReady.cons rfl (fun K hK => ?_) AllReady.nil))
      · go_simp
        go_at_call 25
        refine (HS.out _).mono ?_
        rintro e w1 ⟨rfl, b1⟩
        obtain ⟨⟨d0, d1, d2⟩, ⟨⟨bb, db⟩, df⟩, b2⟩ := hD _ b1
        refine hK _ _ ?_
        clear hK K
        refine wpAny_ready (rs := [3]) (by kernel_rfl) (by simp) ?_
        refine (AllReady.cons rfl (fun K hK => ?_) AllReady.nil)
        · go_simp
          refine hK _ _ ?_
          clear hK K
          refine wpAny_ready (rs := [4]) (by kernel_rfl) (by simp) ?_
          refine (AllReady.cons rfl (fun K hK => ?_) AllReady.nil)
          · go_simp
            refine hK _ _ ?_
            clear hK K
            refine wpAny_ready (rs := [5]) (by kernel_rfl) (by simp) ?_
            refine (AllReady.cons rfl (fun K hK => ?_) AllReady.nil)
            · go_simp
              refine hK _ _ ?_
              clear hK K
              refine wpAny_done (by kernel_rfl) ?_ _
              go_wp2_with fail
              exact door_ret rfl (World.cell?_setCell_same _ _ _ db) (b2.setCell (p := ⟨w.heap.size + 1, 0, none⟩) (Nat.le_succ _) _)
      · go_simp
        refine hK _ _ ?_
        clear hK K
        refine wpAny_ready (rs := [1]) (by kernel_rfl) (by simp) ?_
        refine (AllReady.cons rfl (fun K hK => ?_) AllReady.nil)
        · go_simp
          go_at_call 25
          refine (HS.out _).mono ?_
          rintro e w1 ⟨rfl, b1⟩
          obtain ⟨⟨d0, d1, d2⟩, ⟨⟨bb, db⟩, df⟩, b2⟩ := hD _ b1
          refine hK _ _ ?_
          clear hK K
          refine wpAny_ready (rs := [4]) (by kernel_rfl) (by simp) ?_
          refine (AllReady.cons rfl (fun K hK => ?_) AllReady.nil)
          · go_simp
            refine hK _ _ ?_
            clear hK K
            refine wpAny_ready (rs := [5]) (by kernel_rfl) (by simp) ?_
            refine (AllReady.cons rfl (fun K hK => ?_) AllReady.nil)
            · go_simp
              refine hK _ _ ?_
              clear hK K
              refine wpAny_done (by kernel_rfl) ?_ _
              go_wp2_with fail
              exact door_ret rfl (World.cell?_setCell_same _ _ _ db) (b2.setCell (p := ⟨w.heap.size + 1, 0, none⟩) (Nat.le_succ _) _)
  · go_simp
    refine hK _ _ ?_
    clear hK K
    refine wpAny_ready (rs := [0, 3]) (by kernel_rfl) (by simp) ?_
    refine (AllReady.cons rfl (fun K hK => ?_) (AllReady.cons rfl (fun K hK => ?_) AllReady.nil))
    · go_simp
      refine hK _ _ ?_
      clear hK K
      refine wpAny_ready (rs := [1, 3]) (by kernel_rfl) (by simp) ?_
      refine (AllReady.cons rfl (fun K hK => ?_) (AllReady.cons rfl (fun K hK => ?_) AllReady.nil))
      · go_simp
        go_at_call 25
        refine (HS.out _).mono ?_
        rintro e w1 ⟨rfl, b1⟩
        obtain ⟨⟨d0, d1, d2⟩, ⟨⟨bb, db⟩, df⟩, b2⟩ := hD _ b1
        refine hK _ _ ?_
        clear hK K
        refine wpAny_ready (rs := [3]) (by kernel_rfl) (by simp) ?_
        refine (AllReady.cons rfl (fun K hK => ?_) AllReady.nil)
        · go_simp
          refine hK _ _ ?_
          clear hK K
          refine wpAny_ready (rs := [4]) (by kernel_rfl) (by simp) ?_
          refine (AllReady.cons rfl (fun K hK => ?_) AllReady.nil)
          · go_simp
            refine hK _ _ ?_
            clear hK K
            refine wpAny_ready (rs := [5]) (by kernel_rfl) (by simp) ?_
            refine (AllReady.cons rfl (fun K hK => ?_) AllReady.nil)
            · go_simp
              refine hK _ _ ?_
              clear hK K
              refine wpAny_done (by kernel_rfl) ?_ _
              go_wp2_with fail
              exact door_ret rfl (World.cell?_setCell_same _ _ _ db) (b2.setCell (p := ⟨w.heap.size + 1, 0, none⟩) (Nat.le_succ _) _)
      · go_simp
        refine hK _ _ ?_
        clear hK K
        refine wpAny_ready (rs := [1]) (by kernel_rfl) (by simp) ?_
        refine (AllReady.cons rfl (fun K hK => ?_) AllReady.nil)
        · go_simp
          go_at_call 25
          refine (HS.out _).mono ?_
          rintro e w1 ⟨rfl, b1⟩
          obtain ⟨⟨d0, d1, d2⟩, ⟨⟨bb, db⟩, df⟩, b2⟩ := hD _ b1
          refine hK _ _ ?_
          clear hK K
          refine wpAny_ready (rs := [4]) (by kernel_rfl) (by simp) ?_
          refine (AllReady.cons rfl (fun K hK => ?_) AllReady.nil)
          · go_simp
            refine hK _ _ ?_
            clear hK K
            refine wpAny_ready (rs := [5]) (by kernel_rfl) (by simp) ?_
            refine (AllReady.cons rfl (fun K hK => ?_) AllReady.nil)
            · go_simp
              refine hK _ _ ?_
              clear hK K
              refine wpAny_done (by kernel_rfl) ?_ _
              go_wp2_with fail
              exact door_ret rfl (World.cell?_setCell_same _ _ _ db) (b2.setCell (p := ⟨w.heap.size + 1, 0, none⟩) (Nat.le_succ _) _)
    · go_simp
      refine hK _ _ ?_
      clear hK K
      refine wpAny_ready (rs := [0]) (by kernel_rfl) (by simp) ?_
      refine (AllReady.cons rfl (fun K hK => ?_) AllReady.nil)
      · go_simp
        refine hK _ _ ?_
        clear hK K
        refine wpAny_ready (rs := [1]) (by kernel_rfl) (by simp) ?_
        refine (AllReady.cons rfl (fun K hK => ?_) AllReady.nil)
        · go_simp
          go_at_call 25
          refine (HS.out _).mono ?_
          rintro e w1 ⟨rfl, b1⟩
          obtain ⟨⟨d0, d1, d2⟩, ⟨⟨bb, db⟩, df⟩, b2⟩ := hD _ b1
          refine hK _ _ ?_
          clear hK K
          refine wpAny_ready (rs := [4]) (by kernel_rfl) (by simp) ?_
          refine (AllReady.cons rfl (fun K hK => ?_) AllReady.nil)
          · go_simp
            refine hK _ _ ?_
            clear hK K
            refine wpAny_ready (rs := [5]) (by kernel_rfl) (by simp) ?_
            refine (AllReady.cons rfl (fun K hK => ?_) AllReady.nil)
            · go_simp
              refine hK _ _ ?_
              clear hK K
              refine wpAny_done (by kernel_rfl) ?_ _
              go_wp2_with fail
              exact door_ret rfl (World.cell?_setCell_same _ _ _ db) (b2.setCell (p := ⟨w.heap.size + 1, 0, none⟩) (Nat.le_succ _) _)
end Go.Proofs.YtkimibppfniejaaDoor
