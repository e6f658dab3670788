/- The document's own arena: FreeAll, walked. -/
import Derived.Test.YtomcpjgklecopaaArenaRef4
import Derived.Test.YtomcpjgklecopaaPass
set_option linter.unusedVariables false
namespace Go.Proofs.Ytomcpjgklecopaa
open Go Go.RowKit

def FreePost (w : World) (B N : Nat) (vF vT : Value) (fr tk hs : List H2) (e : Ending) (w' : World) : Prop :=
  (goodF tk hs ∧ e = .returned (.int .i64 0) ∧ (∃ vF' vT', RefA w' B N vF' vT' (freeR fr tk hs).1 (freeR fr tk hs).2 ∧ (∀ k, footA N vF' vT' k → footA N vF vT k ∨ w.heap.size ≤ k)) ∧ Only (fun k => k = N) w w') ∨
  (¬ goodF tk hs ∧ e = .returned (.int .i64 51) ∧ Below w.heap.size w w')
theorem goodF_take {tk hs : List H2} (h : goodF tk hs) (k : Nat) : goodF tk (hs.take k) := ⟨h.1.sublist (List.take_sublist _ _), fun z hz => h.2 z (List.mem_of_mem_take hz)⟩
set_option maxHeartbeats 8000000 in
set_option maxRecDepth 100000 in
theorem refFreeAll_any (A : Option Addr) (c : Nat) (hs : List H2) (w : World) (B N : Nat) (vF vT : Value) (fr tk : List H2) (h : RefA w B N vF vT fr tk) (hr : RdH w A hs) (hA : hs ≠ [] → ∀ ad, A = some ad → ad.block ≠ N) (hc : hs.length ≤ c) (hl : hs.length ≤ 1000) (hl1 : fr.length ≤ 1000) (hl2 : tk.length ≤ 1000) (hg : ∀ z ∈ tk, -1000000000 ≤ z.2 ∧ z.2 ≤ 1000000000) :
    Calls Try.prog 15 #[.pointer (some ⟨N, 0, none⟩), .slice A hs.length c] w (FreePost w B N vF vT fr tk hs) := by
  have HA := Lib.hid h
  have HR := Lib.hid hr
  have HN := Lib.hid hA
  have HG := Lib.hid hg
  have hNlt := h.lt
  clear h hr hA hg
  go_enter Try.func15, Try.ntmps15
  go_wp2_with fail
  go_loopw [5] (fun i wr => ∃ k : Nat, k ≤ hs.length ∧ i = .int .i64 (k : Nat) ∧ goodF tk (hs.take k) ∧ Below w.heap.size w wr) (fun i _ => hs.length - (intOf i).toNat)
  case atStart => exact ⟨0, Nat.zero_le _, rfl, goodF_nil _, Below.refl _ _⟩
  case round =>
    obtain ⟨k, hk, rfl, hgood, hbw⟩ := hrel
    have HGd := Lib.hid hgood
    clear hgood
    by_cases hlt : k < hs.length
    · obtain ⟨ad, rfl, hblk, h0, h1⟩ := (HR.out.below (Nat.le_refl _) hbw).at2 hlt
      obtain ⟨wk, hwk⟩ : ∃ x, x = wr := ⟨_, rfl⟩
      subst hwk
      obtain ⟨z, hz⟩ : ∃ z, hs.getD k H2.no = z := ⟨_, rfl⟩
      rw [hz] at h0 h1
      have HZ := Lib.hid hz
      obtain ⟨ka, kn⟩ := z
      have hlv := refLive_any (ka, kn) wk B N vF vT fr tk (HA.out.below hbw) (by omega)
      unfold handV at hlv
      dsimp only at h0 h1 hlv
      obtain ⟨b, hb⟩ : ∃ b, decide ((ka, kn) ∈ tk) = b := ⟨_, rfl⟩
      rw [hb] at hlv
      have HLv := Lib.hid hlv
      have HB := Lib.hid hb
      clear hz hlv hb
      cases b with
      | false =>
        have hbad : ¬ goodF tk hs := goodF_bad hlt (by rw [HZ.out]; exact of_decide_eq_false HB.out)
        have HBad := Lib.hid hbad
        clear hbad
        go_wp2_with fail
        refine HLv.out.mono ?_
        rintro e w2 ⟨rfl, b2⟩
        go_wp2_with fail
        go_ret
        exact .inr ⟨HBad.out, rfl, hbw.trans (b2.mono hbw.size)⟩
      | true =>
        go_wp2_with fail
        refine HLv.out.mono ?_
        rintro e w2 ⟨rfl, b2⟩
        have hbw2 : Below w.heap.size w w2 := hbw.trans (b2.mono hbw.size)
        clear h0 h1
        go_wp2_with fail
        go_loopw [6] (fun j wr => ∃ m : Nat, m ≤ k ∧ j = .int .i64 (m : Nat) ∧ (∀ q, q < m → hs.getD q H2.no ≠ hs.getD k H2.no) ∧ Below w.heap.size w wr) (fun j _ => k - (intOf j).toNat)
        case atStart => exact ⟨0, Nat.zero_le _, rfl, fun q hq => by omega, hbw2⟩
        case round =>
          obtain ⟨m, hm, rfl, hne, hbj⟩ := hrel
          have HNe := Lib.hid hne
          clear hne
          by_cases hlm : m < k
          · obtain ⟨ae, hae, _, h0, h1⟩ := (HR.out.below (Nat.le_refl _) hbj).at2 hlt
            obtain rfl : ad = ae := by injection hae
            obtain ⟨ae, hae2, _, g0, g1⟩ := (HR.out.below (Nat.le_refl _) hbj).at2 (k := m) (by omega)
            obtain rfl : ad = ae := by injection hae2
            rw [HZ.out] at h0 h1
            obtain ⟨y, hy⟩ : ∃ y, hs.getD m H2.no = y := ⟨_, rfl⟩
            rw [hy] at g0 g1
            have HY := Lib.hid hy
            obtain ⟨la, ln⟩ := y
            have hq := sameH_iff (la, ln) (ka, kn)
            have heq := fun W => eq_hand la ln ka kn W
            unfold sameH at hq
            dsimp only at hq h0 h1 g0 g1
            obtain ⟨b, hb⟩ : ∃ b, (la == ka && ln == kn) = b := ⟨_, rfl⟩
            rw [hb] at heq hq
            have HQ := Lib.hid hq.symm
            have hmi : (m : Int) < (hs.length : Int) := by omega
            have hki : (k : Int) < (hs.length : Int) := by omega
            clear hae hae2 hy hb hq
            cases b with
            | true =>
              have hbad : ¬ goodF tk hs := goodF_twice hlt hlm (by rw [HY.out, HZ.out]; exact of_decide_eq_true HQ.out)
              have HBad := Lib.hid hbad
              clear hbad
              go_wp2_with fail
              go_quiet (fail)
              go_wp2_with fail
              go_ret
              exact .inr ⟨HBad.out, rfl, below_drewH hbj _⟩
            | false =>
              have hne2 : ∀ q, q < m + 1 → hs.getD q H2.no ≠ hs.getD k H2.no := fun q hq => by
                rcases Nat.lt_or_ge q m with h | h
                · exact HNe.out q h
                · obtain rfl : q = m := by omega
                  rw [HY.out, HZ.out]
                  exact of_decide_eq_false HQ.out
              have HNe2 := Lib.hid hne2
              clear hne2
              go_wp2_with fail
              go_quiet (fail)
              go_wp2_with fail
              go_roundw
              case rel => exact ⟨m + 1, by omega, by go_num, HNe2.out, below_drewH hbj _⟩
              case measure => simp [intOf]; omega
          · obtain rfl : m = k := by omega
            have hgd := goodF_snoc hlt HGd.out (by rw [HZ.out]; exact of_decide_eq_true HB.out) HNe.out
            have HGd2 := Lib.hid hgd
            clear hgd
            go_wp2_with fail
            go_roundw
            case rel => exact ⟨m + 1, by omega, by go_num, HGd2.out, hbj⟩
            case measure => simp [intOf]; omega
    · obtain rfl : k = hs.length := by omega
      have hgd : goodF tk hs := by have := HGd.out; rwa [List.take_length] at this
      have HGd2 := Lib.hid hgd
      clear hgd HGd
      go_wp2_with fail
      go_loopw [7] (fun i wr => ∃ (k : Nat) (vF' vT' : Value), k ≤ hs.length ∧ i = .int .i64 (k : Nat) ∧ RefA wr B N vF' vT' (freeR fr tk (hs.take k)).1 (freeR fr tk (hs.take k)).2 ∧ (∀ x, footA N vF' vT' x → footA N vF vT x ∨ w.heap.size ≤ x) ∧ Only (fun x => x = N) w wr) (fun i _ => hs.length - (intOf i).toNat)
      case atStart => exact ⟨0, vF, vT, Nat.zero_le _, rfl, HA.out.below hbw, fun x hx => .inl hx, Only.mono (S := NoB) (Below.only hbw) (fun x hx => hx.elim)⟩
      case round =>
        clear hbw
        obtain ⟨k, vF', vT', hk, rfl, hAk, hfo, hon⟩ := hrel
        by_cases hlt : k < hs.length
        · obtain ⟨wk, hwk⟩ : ∃ x, x = wr := ⟨_, rfl⟩
          subst hwk
          have hfl := freeR_len fr tk (hs.take k)
          have hsucc := freeR_succ fr tk hs k hlt
          have HN1 := Lib.hid (HN.out (fun e0 => by rw [e0] at hlt; exact absurd hlt (Nat.not_lt_zero _)))
          obtain ⟨⟨frk, tkk⟩, hfr⟩ : ∃ p, freeR fr tk (hs.take k) = p := ⟨_, rfl⟩
          rw [hfr] at hAk hfl hsucc
          rw [List.length_take] at hfl
          dsimp only at hAk hfl
          have hf1 : frk.length ≤ 2000 := by omega
          have hf2 : tkk.length ≤ 1000 := by omega
          clear hfl
          have HAk := Lib.hid hAk
          have hzt := HGd2.out.2 _ (mem_getD hlt)
          have hzg := HG.out _ hzt
          obtain ⟨z, hz⟩ : ∃ z, hs.getD k H2.no = z := ⟨_, rfl⟩
          rw [hz] at hsucc hzg
          have HZ := Lib.hid hz
          obtain ⟨ka, kn⟩ := z
          have HSucc := Lib.hid hsucc
          have hRk := HR.out.only hon (fun ad e h => HN1.out ad e h)
          have HRk := Lib.hid hRk
          have hNk := hAk.lt
          clear hAk hsucc hz hfr hzt hRk
          dsimp only at hzg
          go_wp2_with fail
          go_loopw [8, 9] (fun vl j wr => ∃ (m : Nat) (vL : Value) (acc : List H2), vl = vL ∧ j = .int .i64 (m : Nat) ∧ m ≤ tkk.length ∧ HRow wr wk.heap.size vL acc.length acc ∧ acc = (tkk.take m).filter (fun y => !(decide (y = (ka, kn)))) ∧ Below wk.heap.size wk wr) (fun _ j _ => tkk.length - (intOf j).toNat)
          case atStart => exact ⟨0, _, [], rfl, rfl, Nat.zero_le _, HRow.nil _ _, rfl, Below.refl _ _⟩
          case round =>
            obtain ⟨m, vL, acc, rfl, rfl, hm, hrow, hacc, hbj⟩ := hrel
            have hAj := HAk.out.below hbj
            obtain ⟨c0, c1, f0, f1⟩ := hAj.cells
            obtain ⟨AT, cT, eT, hcT, hrdT, hT, hT0⟩ := hAj.rT.rd
            obtain ⟨AL, cL, eL, hcL, hrdL, hLb, _⟩ := hrow.rd
            rw [eT] at c1
            subst eL
            have HRw := Lib.hid hrow
            have HAcc := Lib.hid hacc
            have hla : acc.length ≤ m := by rw [hacc]; exact Nat.le_trans (List.length_filter_le _ _) (by rw [List.length_take]; omega)
            obtain ⟨ad, hae, hblkj, h0, h1⟩ := (HRk.out.below (Nat.le_refl _) hbj).at2 hlt
            subst hae
            rw [HZ.out] at h0 h1
            dsimp only at h0 h1
            have hki : (k : Int) < (hs.length : Int) := by omega
            clear hrow hacc hAj eT hT hT0 hLb hrdL
            by_cases hlm : m < tkk.length
            · obtain ⟨ae, rfl, _, g0, g1⟩ := hrdT.at2 hlm
              obtain ⟨y, hy⟩ : ∃ y, tkk.getD m H2.no = y := ⟨_, rfl⟩
              have hts : tkk.take (m + 1) = tkk.take m ++ [y] := by rw [List.take_succ_eq_append_getElem hlm, ← hy, List.getD_eq_getElem?_getD, List.getElem?_eq_getElem hlm]; rfl
              rw [hy] at g0 g1
              have HTs := Lib.hid hts
              obtain ⟨la, ln⟩ := y
              have hq := sameH_iff (la, ln) (ka, kn)
              have hne := fun W => neq_hand la ln ka kn W
              unfold sameH at hq
              dsimp only at hq g0 g1
              obtain ⟨b, hb⟩ : ∃ b, (la == ka && ln == kn) = b := ⟨_, rfl⟩
              rw [hb] at hne hq
              have HQ := Lib.hid hq.symm
              clear hy hts hb hq c0 f0 f1 hrdT
              cases b with
              | true =>
                have hacc2 : acc = (tkk.take (m + 1)).filter (fun y => !(decide (y = (ka, kn)))) := by
                  rw [HTs.out, List.filter_append, ← HAcc.out, List.filter_cons_of_neg (by rw [HQ.out]; decide), List.filter_nil, List.append_nil]
                have HAcc2 := Lib.hid hacc2
                clear hacc2
                go_wp2_with fail
                go_quiet (fail)
                go_wp2_with fail
                go_roundw
                case rel => exact ⟨m + 1, _, acc, rfl, by go_num, by omega, HRw.out.only (S := NoB) (Below.only (below_drewH (Below.refl _ _) _)) (fun _ _ h => h), HAcc2.out, below_drewH hbj _⟩
                case measure => simp [intOf]; omega
              | false =>
                have hacc2 : acc ++ [(la, ln)] = (tkk.take (m + 1)).filter (fun y => !(decide (y = (ka, kn)))) := by
                  rw [HTs.out, List.filter_append, ← HAcc.out, List.filter_cons_of_pos (by rw [HQ.out]; decide), List.filter_nil]
                have HAcc2 := Lib.hid hacc2
                clear hacc2
                go_wp2_with fail
                go_quiet (fail)
                go_wp2_with (at_builtin; refine wpList_append_hands rfl _ _ rfl wk.heap.size _ acc.length acc rfl (HRw.out.only (S := NoB) ((Below.only (below_drewH (Below.refl _ _) _)).alloc _) (fun _ _ h => h)) (some ⟨_, 0, none⟩) 1 1 [(la, ln)] rfl rfl (rdH_one _ la ln) ?s2 ?s3 _ rfl ?_)
                case s2 => simp; omega
                case s3 => have := hbj.size; simp; omega
                intro v4 w4 r4 g4 l4
                obtain ⟨A4, cv4, rfl, _, _, _, _⟩ := r4.rd
                have hb4 := ((below_drewH hbj _).alloc (by have := hbj.size; simp; omega) _).grown g4 (by have := hbj.size; simp; omega) (fun g hg => (HRw.out.lt g hg).1)
                go_wp2_with fail
                go_roundw
                case rel => exact ⟨m + 1, _, acc ++ [(la, ln)], rfl, by go_num, by omega, by rw [List.length_append]; exact r4, HAcc2.out, hb4⟩
                case measure => simp [intOf]; omega
            · obtain rfl : m = tkk.length := by omega
              have hNj : N < wr.heap.size := by have := hbj.size; omega
              have hadN : ad.block ≠ N := HN1.out ad rfl
              have hwrap : IntKind.i64.wrap (kn + 1) = kn + 1 := IntWalk.i64_in _ (by omega)
              obtain ⟨AF, cF, eF, hcF, hrdF, hFb, _⟩ := (HAk.out.below hbj).rF.rd
              rw [eF] at c0
              have hFN : ∀ ae, AF = some ae → ae.block ≠ N := fun ae e h => by have := (hFb ae e).1; exact HAk.out.nF (by rw [this, h])
              have xF : (wr.setCell { block := N, off := 1 } (.slice AL acc.length cL)).frozen? { block := N, off := 0 } = false := by rw [World.frozen?_setCell]; exact f0
              have x0 : (wr.setCell { block := N, off := 1 } (.slice AL acc.length cL)).cell? (ad.add (k * 2)) = some (.int .i64 ka) := (World.cell?_of_block (Below.heap_setCell _ _ _ _ (by rw [add_block]; exact hadN))).trans h0
              have x1 : (wr.setCell { block := N, off := 1 } (.slice AL acc.length cL)).cell? { block := (ad.add (k * 2)).block, off := (ad.add (k * 2)).off + 1 } = some (.int .i64 kn) := (World.cell?_of_block (Below.heap_setCell _ _ _ _ (by show (ad.add (k * 2)).block ≠ N; rw [add_block]; exact hadN))).trans h1
              have xN : (wr.setCell { block := N, off := 1 } (.slice AL acc.length cL)).cell? { block := N, off := 0 } = some (.slice AF frk.length cF) := by rw [World.cell?_setCell_other _ _ _ _ (by simp)]; exact c0
              go_wp2_with fail
              refine wp_region_held_drew (S := (fun w' => w'.cell? (ad.add (k * 2)) = some (.int .i64 ka) ∧ w'.cell? { block := (ad.add (k * 2)).block, off := (ad.add (k * 2)).off + 1 } = some (.int .i64 kn))) (by kernel_rfl) ⟨x0, x1⟩ (fun hHeld => ?_)
              refine wpAnyH_take (i := 0) (v := ?_) (by simp only [List.getElem?_toArray, List.getElem?_cons_zero]; rfl) (by kernel_rfl) (by kernel_rfl) (by kernel_rfl) (by exact fun _ _ _ h => h) (Or.inl ⟨by rfl, ?_⟩) (by assumption) ?_
              rotate_left
              · intro w hSw; (try dsimp only at hSw); go_simp; (try with_reducible rfl)
              try simp only [Act.put, List.setIfInBounds_toArray, List.set_cons_zero, List.set_cons_succ]
              refine wpAnyH_take (i := 1) (v := ?_) (by simp only [List.getElem?_toArray, List.getElem?_cons_zero, List.getElem?_cons_succ]; rfl) (by kernel_rfl) (by kernel_rfl) (by kernel_rfl) (by exact fun _ _ _ h => h) (Or.inl ⟨by rfl, ?_⟩) (by assumption) ?_
              rotate_left
              · intro w hSw; (try dsimp only at hSw); go_simp; (try with_reducible rfl)
              try simp only [Act.put, List.setIfInBounds_toArray, List.set_cons_zero, List.set_cons_succ]
              refine wpAnyH_take (i := 2) (v := ?_) (by simp only [List.getElem?_toArray, List.getElem?_cons_zero, List.getElem?_cons_succ]; rfl) (by kernel_rfl) (by kernel_rfl) (by kernel_rfl) (by exact fun _ _ _ h => h) (Or.inl ⟨by rfl, ?_⟩) (by assumption) ?_
              rotate_left
              · intro w hSw; (try dsimp only at hSw); go_simp; (try with_reducible rfl)
              try simp only [Act.put, List.setIfInBounds_toArray, List.set_cons_zero, List.set_cons_succ]
              refine wpAnyH_take (i := 3) (v := ?_) (by simp only [List.getElem?_toArray, List.getElem?_cons_zero, List.getElem?_cons_succ]; rfl) (by kernel_rfl) (by kernel_rfl) (by kernel_rfl) (by exact fun _ _ _ h => h) (Or.inl ⟨by rfl, ?_⟩) (by assumption) ?_
              rotate_left
              · intro w hSw; (try dsimp only at hSw); go_simp; (try with_reducible rfl)
              try simp only [Act.put, List.setIfInBounds_toArray, List.set_cons_zero, List.set_cons_succ]
              refine wpAnyH_take (i := 4) (v := ?_) (by simp only [List.getElem?_toArray, List.getElem?_cons_zero, List.getElem?_cons_succ]; rfl) (by kernel_rfl) (by kernel_rfl) (by kernel_rfl) (by exact fun _ _ _ h => h) (Or.inl ⟨by rfl, ?_⟩) (by assumption) ?_
              rotate_left
              · intro w hSw; (try dsimp only at hSw); go_simp; (try with_reducible rfl)
              try simp only [Act.put, List.setIfInBounds_toArray, List.set_cons_zero, List.set_cons_succ]
              refine wpAnyH_take (i := 5) (v := ?_) (by simp only [List.getElem?_toArray, List.getElem?_cons_zero, List.getElem?_cons_succ]; rfl) (by kernel_rfl) (by kernel_rfl) (by kernel_rfl) (by exact fun _ _ _ h => h) (Or.inl ⟨by rfl, ?_⟩) (by assumption) ?_
              rotate_left
              · intro w hSw; (try dsimp only at hSw); go_simp; (try with_reducible rfl)
              try simp only [Act.put, List.setIfInBounds_toArray, List.set_cons_zero, List.set_cons_succ]
              refine wpAnyH_take (i := 6) (v := ?_) (by simp only [List.getElem?_toArray, List.getElem?_cons_zero, List.getElem?_cons_succ]; rfl) (by kernel_rfl) (by kernel_rfl) (by kernel_rfl) (by exact fun _ _ _ h => h) (Or.inl ⟨by rfl, ?_⟩) (by assumption) ?_
              rotate_left
              · intro w hSw; (try dsimp only at hSw); go_simp; (try with_reducible rfl)
              try simp only [Act.put, List.setIfInBounds_toArray, List.set_cons_zero, List.set_cons_succ]
              refine wpAnyH_take (i := 7) (v := ?_) (by simp only [List.getElem?_toArray, List.getElem?_cons_zero, List.getElem?_cons_succ]; rfl) (by kernel_rfl) (by kernel_rfl) (by kernel_rfl) (by exact fun _ _ _ h => h) (Or.inl ⟨by rfl, ?_⟩) (by assumption) ?_
              rotate_left
              · intro w hSw; (try dsimp only at hSw); go_simp; (try with_reducible rfl)
              try simp only [Act.put, List.setIfInBounds_toArray, List.set_cons_zero, List.set_cons_succ]
              refine wpAnyH_take (i := 8) (v := ?_) (by simp only [List.getElem?_toArray, List.getElem?_cons_zero, List.getElem?_cons_succ]; rfl) (by kernel_rfl) (by kernel_rfl) (by kernel_rfl) (by exact fun _ _ _ h => h) (Or.inl ⟨by rfl, ?_⟩) (by assumption) ?_
              rotate_left
              · intro w hSw; (try dsimp only at hSw); go_simp; (try with_reducible rfl)
              try simp only [Act.put, List.setIfInBounds_toArray, List.set_cons_zero, List.set_cons_succ]
              refine wpAnyH_take (i := 9) (v := ?_) (by simp only [List.getElem?_toArray, List.getElem?_cons_zero, List.getElem?_cons_succ]; rfl) (by kernel_rfl) (by kernel_rfl) (by kernel_rfl) (by exact fun _ _ _ h => h) (Or.inl ⟨by rfl, ?_⟩) (by assumption) ?_
              rotate_left
              · intro w hSw; (try dsimp only at hSw); go_simp; (try with_reducible rfl)
              try simp only [Act.put, List.setIfInBounds_toArray, List.set_cons_zero, List.set_cons_succ]
              refine wpAnyH_take (i := 10) (v := ?_) (by simp only [List.getElem?_toArray, List.getElem?_cons_zero, List.getElem?_cons_succ]; rfl) (by kernel_rfl) (by kernel_rfl) (by kernel_rfl) (by exact fun _ _ _ h => h) (Or.inl ⟨by rfl, ?_⟩) (by assumption) ?_
              rotate_left
              · intro w hSw; (try dsimp only at hSw); go_simp; (try with_reducible rfl)
              try simp only [Act.put, List.setIfInBounds_toArray, List.set_cons_zero, List.set_cons_succ]
              refine wpAnyH_take (i := 11) (v := ?_) (by simp only [List.getElem?_toArray, List.getElem?_cons_zero, List.getElem?_cons_succ]; rfl) (by kernel_rfl) (by kernel_rfl) (by kernel_rfl) (by exact fun _ _ _ h => h) (Or.inl ⟨by rfl, ?_⟩) (by assumption) ?_
              rotate_left
              · intro w hSw; (try dsimp only at hSw); go_simp; (try with_reducible rfl)
              try simp only [Act.put, List.setIfInBounds_toArray, List.set_cons_zero, List.set_cons_succ]
              refine wpAnyH_take (i := 12) (v := ?_) (by simp only [List.getElem?_toArray, List.getElem?_cons_zero, List.getElem?_cons_succ]; rfl) (by kernel_rfl) (by kernel_rfl) (by kernel_rfl) (by exact fun _ _ _ h => h) (Or.inl ⟨by rfl, ?_⟩) (by assumption) ?_
              rotate_left
              · intro w hSw; (try dsimp only at hSw); go_simp; (try with_reducible rfl)
              try simp only [Act.put, List.setIfInBounds_toArray, List.set_cons_zero, List.set_cons_succ]
              refine wpAnyH_take (i := 14) (v := ?_) (by simp only [List.getElem?_toArray, List.getElem?_cons_zero, List.getElem?_cons_succ]; rfl) (by kernel_rfl) (by kernel_rfl) (by kernel_rfl) (by exact fun _ _ _ h => h) (Or.inl ⟨by rfl, ?_⟩) (by assumption) ?_
              rotate_left
              · intro w hSw; (try dsimp only at hSw); go_simp; (try with_reducible rfl)
              try simp only [Act.put, List.setIfInBounds_toArray, List.set_cons_zero, List.set_cons_succ]
              refine wpAnyH_take (i := 15) (v := ?_) (by simp only [List.getElem?_toArray, List.getElem?_cons_zero, List.getElem?_cons_succ]; rfl) (by kernel_rfl) (by kernel_rfl) (by kernel_rfl) (by exact fun _ _ _ h => h) (Or.inl ⟨by rfl, ?_⟩) (by assumption) ?_
              rotate_left
              · intro w hSw; (try dsimp only at hSw); go_simp; (try with_reducible rfl)
              try simp only [Act.put, List.setIfInBounds_toArray, List.set_cons_zero, List.set_cons_succ]
              refine wpAnyH_take (i := 16) (v := ?_) (by simp only [List.getElem?_toArray, List.getElem?_cons_zero, List.getElem?_cons_succ]; rfl) (by kernel_rfl) (by kernel_rfl) (by kernel_rfl) (by exact fun _ _ _ h => h) (Or.inl ⟨by rfl, ?_⟩) (by assumption) ?_
              rotate_left
              · intro w hSw; (try dsimp only at hSw); go_simp; (try with_reducible rfl)
              try simp only [Act.put, List.setIfInBounds_toArray, List.set_cons_zero, List.set_cons_succ]
              have hsz5 : (wr.setCell { block := N, off := 1 } (.slice AL acc.length cL)).drew.heap.size = wr.heap.size := by simp [World.setCell, World.drew]
              have hszA : ((wr.setCell { block := N, off := 1 } (.slice AL acc.length cL)).alloc (.cells #[.int .i64 ka, .int .i64 (kn + 1)] 34)).drew.heap.size = wr.heap.size + 1 := by simp [World.setCell, World.drew]
              have hadlt : ad.block < wr.heap.size := hblkj
              have a0 : ((wr.setCell { block := N, off := 1 } (.slice AL acc.length cL)).alloc (.cells #[.int .i64 ka, .int .i64 (kn + 1)] 34)).drew.cell? (ad.add (k * 2)) = some (.int .i64 ka) := (World.cell?_alloc_lt (wr.setCell { block := N, off := 1 } (.slice AL acc.length cL)).drew _ _ (by rw [add_block, hsz5]; exact hadlt)).trans x0
              have a1 : ((wr.setCell { block := N, off := 1 } (.slice AL acc.length cL)).alloc (.cells #[.int .i64 ka, .int .i64 (kn + 1)] 34)).drew.cell? { block := (ad.add (k * 2)).block, off := (ad.add (k * 2)).off + 1 } = some (.int .i64 kn) := (World.cell?_alloc_lt (wr.setCell { block := N, off := 1 } (.slice AL acc.length cL)).drew _ _ (by show (ad.add (k * 2)).block < _; rw [add_block, hsz5]; exact hadlt)).trans x1
              have aN : ((wr.setCell { block := N, off := 1 } (.slice AL acc.length cL)).alloc (.cells #[.int .i64 ka, .int .i64 (kn + 1)] 34)).drew.cell? { block := N, off := 0 } = some (.slice AF frk.length cF) := (World.cell?_alloc_lt (wr.setCell { block := N, off := 1 } (.slice AL acc.length cL)).drew _ _ (by rw [hsz5]; exact hNj)).trans xN
              have aF : ((wr.setCell { block := N, off := 1 } (.slice AL acc.length cL)).alloc (.cells #[.int .i64 ka, .int .i64 (kn + 1)] 34)).drew.frozen? { block := N, off := 0 } = false := (World.frozen?_of_block (a := { block := N, off := 0 }) (Below.heap_alloc (wr.setCell { block := N, off := 1 } (.slice AL acc.length cL)).drew _ _ (by rw [hsz5]; exact hNj))).trans xF
              have hlit : HRow ((wr.setCell { block := N, off := 1 } (.slice AL acc.length cL)).alloc (.cells #[.int .i64 ka, .int .i64 (kn + 1)] 34)).drew wr.heap.size (.slice (some ⟨wr.heap.size, 0, none⟩) 1 1) 1 [(ka, kn + 1)] := by
                have := litH (wr.setCell { block := N, off := 1 } (.slice AL acc.length cL)).drew ka (kn + 1)
                rw [hsz5] at this
                exact this
              have hrdA : RdH ((wr.setCell { block := N, off := 1 } (.slice AL acc.length cL)).alloc (.cells #[.int .i64 ka, .int .i64 (kn + 1)] 34)).drew AF frk := hrdF.only (((Only.setCell (S := fun x => x = N) (p := { block := N, off := 1 }) (Only.refl _ wr) (.inl rfl) _).drew).alloc _) (fun ae e h => hFN ae e h)
              have xNd : (wr.setCell { block := N, off := 1 } (.slice AL acc.length cL)).drew.cell? { block := N, off := 0 } = some (.slice AF frk.length cF) := xN
              refine wpAnyH_ready (rs := [13, 17]) (by kernel_rfl) (by simp) ?_
              refine AllReadyH.cons (by simp only [List.getElem?_toArray, List.getElem?_cons_zero, List.getElem?_cons_succ]; rfl) (fun K hK => ?_) ?_
              · go_simp
                refine hK.out _ _ ⟨a0, a1⟩ (fun hHeld => ?_)
                clear hK K
                try simp only [Act.put, List.setIfInBounds_toArray, List.set_cons_zero, List.set_cons_succ]
                refine wpAnyH_ready (rs := [17]) (by kernel_rfl) (by simp) ?_
                refine AllReadyH.cons (by simp only [List.getElem?_toArray, List.getElem?_cons_zero, List.getElem?_cons_succ]; rfl) (fun K hK => ?_) AllReadyH.nil
                go_simp
                refine hK.out _ _ (⟨a0, a1⟩) (fun hHeld => ?_)
                clear hK K
                try simp only [Act.put, List.setIfInBounds_toArray, List.set_cons_zero, List.set_cons_succ]
                refine wpAnyH_ready (rs := [18]) (by kernel_rfl) (by simp) ?_
                refine AllReadyH.cons (by simp only [List.getElem?_toArray, List.getElem?_cons_zero, List.getElem?_cons_succ]; rfl) (fun K hK => ?_) AllReadyH.nil
                rw [if_pos (by rfl)]
                refine wp_append_hands _ _ rfl wr.heap.size _ 1 [(ka, kn + 1)] rfl hlit AF frk.length cF frk rfl rfl hrdA ?r1 ?r2 ((wr.setCell { block := N, off := 1 } (.slice AL acc.length cL)).alloc (.cells #[.int .i64 ka, .int .i64 (kn + 1)] 34)).drew.heap.size rfl ?_
                case r1 => omega
                case r2 => rw [hszA]; omega
                intro v4 w4 r4 g4 l4
                obtain ⟨A4, cv4, rfl, _, _, _, _⟩ := r4.rd
                have p0 := (World.cell?_of_block (a := ad.add (k * 2)) (g4.block _ (by rw [hszA, add_block]; omega) (by rw [add_block]; exact fun e => by have e2 : some ad.block = some wr.heap.size := e; injection e2 with e2; omega))).trans a0
                have p1 := (World.cell?_of_block (a := { block := (ad.add (k * 2)).block, off := (ad.add (k * 2)).off + 1 }) (g4.block _ (by show (ad.add (k * 2)).block < _; rw [hszA, add_block]; omega) (by show some (ad.add (k * 2)).block ≠ _; rw [add_block]; exact fun e => by have e2 : some ad.block = some wr.heap.size := e; injection e2 with e2; omega))).trans a1
                have pN := (World.cell?_of_block (a := { block := N, off := 0 }) (g4.block N (by rw [hszA]; omega) (fun e => by have e2 : some N = some wr.heap.size := e; injection e2 with e2; omega))).trans aN
                have pF := (World.frozen?_of_block (a := { block := N, off := 0 }) (g4.block N (by rw [hszA]; omega) (fun e => by have e2 : some N = some wr.heap.size := e; injection e2 with e2; omega))).trans aF
                have q0 : (w4.setCell { block := N, off := 0 } (.slice A4 (1 + frk.length) cv4)).cell? (ad.add (k * 2)) = some (.int .i64 ka) := (World.cell?_of_block (Below.heap_setCell _ _ _ _ (by rw [add_block]; exact hadN))).trans p0
                have q1 : (w4.setCell { block := N, off := 0 } (.slice A4 (1 + frk.length) cv4)).cell? { block := (ad.add (k * 2)).block, off := (ad.add (k * 2)).off + 1 } = some (.int .i64 kn) := (World.cell?_of_block (Below.heap_setCell _ _ _ _ (by show (ad.add (k * 2)).block ≠ N; rw [add_block]; exact hadN))).trans p1
                refine hK.out _ _ ⟨p0, p1⟩ (fun hHeld => ?_)
                clear hK K
                try simp only [Act.put, List.setIfInBounds_toArray, List.set_cons_zero, List.set_cons_succ]
                refine wpAnyH_take (i := 19) (v := ?_) (by simp only [List.getElem?_toArray, List.getElem?_cons_zero, List.getElem?_cons_succ]; rfl) (by kernel_rfl) (by kernel_rfl) (by kernel_rfl) (by exact fun _ _ _ h => h) (Or.inl ⟨by rfl, ?_⟩) (by assumption) ?_
                rotate_left
                · intro w hSw; (try dsimp only at hSw); go_simp; (try with_reducible rfl)
                try simp only [Act.put, List.setIfInBounds_toArray, List.set_cons_zero, List.set_cons_succ]
                refine wpAnyH_take (i := 20) (v := ?_) (by simp only [List.getElem?_toArray, List.getElem?_cons_zero, List.getElem?_cons_succ]; rfl) (by kernel_rfl) (by kernel_rfl) (by kernel_rfl) (by exact fun _ _ _ h => h) (Or.inl ⟨by rfl, ?_⟩) (by assumption) ?_
                rotate_left
                · intro w hSw; (try dsimp only at hSw); go_simp; (try with_reducible rfl)
                try simp only [Act.put, List.setIfInBounds_toArray, List.set_cons_zero, List.set_cons_succ]
                refine wpAnyH_ready (rs := [21]) (by kernel_rfl) (by simp) ?_
                refine AllReadyH.cons (by simp only [List.getElem?_toArray, List.getElem?_cons_zero, List.getElem?_cons_succ]; rfl) (fun K hK => ?_) AllReadyH.nil
                go_simp
                refine hK.out _ _ (⟨q0, q1⟩) (fun hHeld => ?_)
                clear hK K
                try simp only [Act.put, List.setIfInBounds_toArray, List.set_cons_zero, List.set_cons_succ]
                refine wpAnyH_done (by kernel_rfl) ?_ _
                have hend := free_end (z := (ka, kn + 1)) HAk.out hbj (tk' := acc) HRw.out (v4 := .slice A4 (1 + frk.length) cv4) (w4 := w4) (by rw [List.length_cons, Nat.add_comm frk.length 1]; exact r4) g4
                obtain ⟨E1, E2, E3⟩ := hend
                have hsx := HSucc.out
                have hax : acc = tkk.filter (fun y => !(decide (y = (ka, kn)))) := by have := HAcc.out; rwa [List.take_length] at this
                go_wp2_with fail
                go_roundw
                case rel =>
                  refine ⟨k + 1, .slice A4 (1 + frk.length) cv4, .slice AL acc.length cL, by omega, by go_num, ?_, fun x hx => ?_, hon.trans E2 (fun x hx => .inl hx)⟩
                  · rw [hsx]
                    show RefA _ B N _ _ ((ka, kn + 1) :: frk) (tkk.filter (fun y => !(decide (y = (ka, kn)))))
                    rw [← hax]
                    exact E1
                  · rcases E3 x hx with h | h
                    · exact .inl (.inl h)
                    · exact .inr (by have := hon.size; omega)
                case measure => simp [intOf]; omega
              · refine AllReadyH.cons (by simp only [List.getElem?_toArray, List.getElem?_cons_zero, List.getElem?_cons_succ]; rfl) (fun K hK => ?_) AllReadyH.nil
                go_simp
                refine hK.out _ _ ⟨x0, x1⟩ (fun hHeld => ?_)
                clear hK K
                try simp only [Act.put, List.setIfInBounds_toArray, List.set_cons_zero, List.set_cons_succ]
                refine wpAnyH_ready (rs := [13]) (by kernel_rfl) (by simp) ?_
                refine AllReadyH.cons (by simp only [List.getElem?_toArray, List.getElem?_cons_zero, List.getElem?_cons_succ]; rfl) (fun K hK => ?_) AllReadyH.nil
                go_simp
                refine hK.out _ _ (⟨a0, a1⟩) (fun hHeld => ?_)
                clear hK K
                try simp only [Act.put, List.setIfInBounds_toArray, List.set_cons_zero, List.set_cons_succ]
                refine wpAnyH_ready (rs := [18]) (by kernel_rfl) (by simp) ?_
                refine AllReadyH.cons (by simp only [List.getElem?_toArray, List.getElem?_cons_zero, List.getElem?_cons_succ]; rfl) (fun K hK => ?_) AllReadyH.nil
                rw [if_pos (by rfl)]
                refine wp_append_hands _ _ rfl wr.heap.size _ 1 [(ka, kn + 1)] rfl hlit AF frk.length cF frk rfl rfl hrdA ?s1 ?s2 ((wr.setCell { block := N, off := 1 } (.slice AL acc.length cL)).alloc (.cells #[.int .i64 ka, .int .i64 (kn + 1)] 34)).drew.heap.size rfl ?_
                case s1 => omega
                case s2 => rw [hszA]; omega
                intro v4 w4 r4 g4 l4
                obtain ⟨A4, cv4, rfl, _, _, _, _⟩ := r4.rd
                have p0 := (World.cell?_of_block (a := ad.add (k * 2)) (g4.block _ (by rw [hszA, add_block]; omega) (by rw [add_block]; exact fun e => by have e2 : some ad.block = some wr.heap.size := e; injection e2 with e2; omega))).trans a0
                have p1 := (World.cell?_of_block (a := { block := (ad.add (k * 2)).block, off := (ad.add (k * 2)).off + 1 }) (g4.block _ (by show (ad.add (k * 2)).block < _; rw [hszA, add_block]; omega) (by show some (ad.add (k * 2)).block ≠ _; rw [add_block]; exact fun e => by have e2 : some ad.block = some wr.heap.size := e; injection e2 with e2; omega))).trans a1
                have pN := (World.cell?_of_block (a := { block := N, off := 0 }) (g4.block N (by rw [hszA]; omega) (fun e => by have e2 : some N = some wr.heap.size := e; injection e2 with e2; omega))).trans aN
                have pF := (World.frozen?_of_block (a := { block := N, off := 0 }) (g4.block N (by rw [hszA]; omega) (fun e => by have e2 : some N = some wr.heap.size := e; injection e2 with e2; omega))).trans aF
                have q0 : (w4.setCell { block := N, off := 0 } (.slice A4 (1 + frk.length) cv4)).cell? (ad.add (k * 2)) = some (.int .i64 ka) := (World.cell?_of_block (Below.heap_setCell _ _ _ _ (by rw [add_block]; exact hadN))).trans p0
                have q1 : (w4.setCell { block := N, off := 0 } (.slice A4 (1 + frk.length) cv4)).cell? { block := (ad.add (k * 2)).block, off := (ad.add (k * 2)).off + 1 } = some (.int .i64 kn) := (World.cell?_of_block (Below.heap_setCell _ _ _ _ (by show (ad.add (k * 2)).block ≠ N; rw [add_block]; exact hadN))).trans p1
                refine hK.out _ _ ⟨p0, p1⟩ (fun hHeld => ?_)
                clear hK K
                try simp only [Act.put, List.setIfInBounds_toArray, List.set_cons_zero, List.set_cons_succ]
                refine wpAnyH_take (i := 19) (v := ?_) (by simp only [List.getElem?_toArray, List.getElem?_cons_zero, List.getElem?_cons_succ]; rfl) (by kernel_rfl) (by kernel_rfl) (by kernel_rfl) (by exact fun _ _ _ h => h) (Or.inl ⟨by rfl, ?_⟩) (by assumption) ?_
                rotate_left
                · intro w hSw; (try dsimp only at hSw); go_simp; (try with_reducible rfl)
                try simp only [Act.put, List.setIfInBounds_toArray, List.set_cons_zero, List.set_cons_succ]
                refine wpAnyH_take (i := 20) (v := ?_) (by simp only [List.getElem?_toArray, List.getElem?_cons_zero, List.getElem?_cons_succ]; rfl) (by kernel_rfl) (by kernel_rfl) (by kernel_rfl) (by exact fun _ _ _ h => h) (Or.inl ⟨by rfl, ?_⟩) (by assumption) ?_
                rotate_left
                · intro w hSw; (try dsimp only at hSw); go_simp; (try with_reducible rfl)
                try simp only [Act.put, List.setIfInBounds_toArray, List.set_cons_zero, List.set_cons_succ]
                refine wpAnyH_ready (rs := [21]) (by kernel_rfl) (by simp) ?_
                refine AllReadyH.cons (by simp only [List.getElem?_toArray, List.getElem?_cons_zero, List.getElem?_cons_succ]; rfl) (fun K hK => ?_) AllReadyH.nil
                go_simp
                refine hK.out _ _ (⟨q0, q1⟩) (fun hHeld => ?_)
                clear hK K
                try simp only [Act.put, List.setIfInBounds_toArray, List.set_cons_zero, List.set_cons_succ]
                refine wpAnyH_done (by kernel_rfl) ?_ _
                have hend := free_end (z := (ka, kn + 1)) HAk.out hbj (tk' := acc) HRw.out (v4 := .slice A4 (1 + frk.length) cv4) (w4 := w4) (by rw [List.length_cons, Nat.add_comm frk.length 1]; exact r4) g4
                obtain ⟨E1, E2, E3⟩ := hend
                have hsx := HSucc.out
                have hax : acc = tkk.filter (fun y => !(decide (y = (ka, kn)))) := by have := HAcc.out; rwa [List.take_length] at this
                go_wp2_with fail
                go_roundw
                case rel =>
                  refine ⟨k + 1, .slice A4 (1 + frk.length) cv4, .slice AL acc.length cL, by omega, by go_num, ?_, fun x hx => ?_, hon.trans E2 (fun x hx => .inl hx)⟩
                  · rw [hsx]
                    show RefA _ B N _ _ ((ka, kn + 1) :: frk) (tkk.filter (fun y => !(decide (y = (ka, kn)))))
                    rw [← hax]
                    exact E1
                  · rcases E3 x hx with h | h
                    · exact .inl (.inl h)
                    · exact .inr (by have := hon.size; omega)
                case measure => simp [intOf]; omega
        · obtain rfl : k = hs.length := by omega
          rw [List.take_length] at hAk
          go_wp2_with fail
          go_ret
          exact .inl ⟨HGd2.out, rfl, ⟨_, _, hAk, hfo⟩, hon⟩
end Go.Proofs.Ytomcpjgklecopaa
