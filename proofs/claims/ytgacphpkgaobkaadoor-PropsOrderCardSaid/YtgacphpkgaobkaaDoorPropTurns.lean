/- Plain Lean: in whichever order properties of unlike names are set, it is one list. Rows of texts that the call itself makes. A list turned about: the numbers, and an append as one step of a region that draws its order. -/
import Derived.Test.YtgacphpkgaobkaaDoorPropLaws3
import Derived.Deep.AppendLies
set_option linter.unusedVariables false
namespace Go.Proofs.YtgacphpkgaobkaaDoor
open Go Go.RowKit

def foldP : List Prop4 → List Prop4 → List Prop4
  | acc, [] => acc
  | acc, y :: r => foldP (putFrom false acc y) r
theorem foldP_append : ∀ (a acc b : List Prop4), foldP acc (a ++ b) = foldP (foldP acc a) b
  | [], _, _ => rfl
  | y :: r, acc, b => foldP_append r (putFrom false acc y) b
theorem foldP_good : ∀ (ys acc : List Prop4), Asc acc → Names acc → (∀ y ∈ ys, nameK y = true ∧ okK y = true) → Asc (foldP acc ys) ∧ Names (foldP acc ys) ∧ acc.length ≤ (foldP acc ys).length ∧ ∀ key, getP key (foldP acc ys) = afterP key ys (getP key acc)
  | [], acc, ha, hn, _ => ⟨ha, hn, Nat.le_refl _, fun _ => rfl⟩
  | y :: r, acc, ha, hn, hy => by
    have h1 := (hy y List.mem_cons_self).1
    obtain ⟨g1, g2, g3, g4⟩ := foldP_good r (putFrom false acc y) (putFrom_asc acc y ha).1 (names_put hn h1) (fun z hz => hy z (List.mem_cons_of_mem _ hz))
    refine ⟨g1, g2, Nat.le_trans (putFrom_ge acc y ha) g3, fun key => ?_⟩
    show getP key (foldP (putFrom false acc y) r) = _
    rw [g4 key, getP_put acc y key ha hn h1]
    rfl
theorem foldP_ok : ∀ (ys acc : List Prop4), (∀ y ∈ ys, okK y = true) → (∀ z ∈ acc, okK z = true) → ∀ z ∈ foldP acc ys, okK z = true
  | [], _, _, ha => ha
  | y :: r, acc, hy, ha => foldP_ok r _ (fun z hz => hy z (List.mem_cons_of_mem _ hz)) (fun z hz => by
      rcases putFrom_mem _ _ _ _ hz with h | h
      · exact ha z h
      · rw [h]; exact hy y List.mem_cons_self)
theorem faultP_zero : ∀ (ys : List Prop4), (∀ y ∈ ys, nameK y = true ∧ okK y = true) → faultP ys = 0
  | [], _ => rfl
  | y :: r, h => by
    unfold faultP
    rw [if_pos (h y List.mem_cons_self).1, if_pos (h y List.mem_cons_self).2]
    exact faultP_zero r (fun z hz => h z (List.mem_cons_of_mem _ hz))
theorem setFrom_fold : ∀ (ys acc : List Prop4), (∀ y ∈ ys, nameK y = true ∧ okK y = true) → setFrom acc ys = if (foldP acc ys).length ≤ 16 then (0, foldP acc ys) else (32, [])
  | [], acc, _ => rfl
  | y :: r, acc, h => by
    rw [setFrom_step (faultP_zero _ h)]
    exact setFrom_fold r _ (fun z hz => h z (List.mem_cons_of_mem _ hz))
theorem getP_mem : ∀ (zs : List Prop4) (z : Prop4), Asc zs → (z ∈ zs ↔ getP z.1 zs = (z.2, true))
  | [], z, _ => by simp [getP]
  | y :: r, z, ha => by
    have ih := getP_mem r z (List.pairwise_cons.1 ha).2
    have hy := (List.pairwise_cons.1 ha).1
    show _ ↔ (if y.1 = z.1 then (y.2, true) else getP z.1 r) = (z.2, true)
    by_cases h : y.1 = z.1
    · rw [if_pos h]
      constructor
      · intro hm
        rcases List.mem_cons.1 hm with rfl | hm
        · rfl
        · have := hy z hm
          rw [h, cmpK_self] at this
          omega
      · intro e
        have e2 : y.2 = z.2 := (Prod.mk.inj e).1
        have : z = y := Prod.ext h.symm e2.symm
        rw [this]; exact List.mem_cons_self
    · rw [if_neg h, ← ih]
      constructor
      · intro hm
        rcases List.mem_cons.1 hm with rfl | hm
        · exact absurd rfl h
        · exact hm
      · exact fun hm => List.mem_cons_of_mem _ hm
theorem getP_later {zs : List Prop4} {p : ByteArray} (h : ∀ z ∈ zs, cmpK p z.1 < 0) : getP p zs = ((0, 0, ByteArray.empty), false) :=
  getP_no zs p (fun k hk e => by
    have h1 := h (zs.getD k Prop4.no) (by rw [List.getD_eq_getElem?_getD, List.getElem?_eq_getElem hk]; exact List.getElem_mem hk)
    rw [e, cmpK_self] at h1
    omega)
/-- What names have tells a list in order. -/
theorem asc_ext : ∀ (a b : List Prop4), Asc a → Asc b → (∀ key, getP key a = getP key b) → a = b
  | [], [], _, _, _ => rfl
  | [], y :: s, _, _, h => by
    have := h y.1
    rw [show getP y.1 (y :: s) = (y.2, true) from by show (if y.1 = y.1 then _ else _) = _; rw [if_pos rfl]] at this
    exact absurd (congrArg Prod.snd this) (by simp [getP])
  | z :: r, [], _, _, h => by
    have := h z.1
    rw [show getP z.1 (z :: r) = (z.2, true) from by show (if z.1 = z.1 then _ else _) = _; rw [if_pos rfl]] at this
    exact absurd (congrArg Prod.snd this) (by simp [getP])
  | z :: r, y :: s, ha, hb, h => by
    have hz := (List.pairwise_cons.1 ha).1
    have hy := (List.pairwise_cons.1 hb).1
    have mz : z ∈ y :: s := (getP_mem (y :: s) z hb).2 (by rw [← h z.1]; exact (getP_mem (z :: r) z ha).1 List.mem_cons_self)
    have my : y ∈ z :: r := (getP_mem (z :: r) y ha).2 (by rw [h y.1]; exact (getP_mem (y :: s) y hb).1 List.mem_cons_self)
    have e : z = y := by
      rcases List.mem_cons.1 mz with h1 | h1
      · exact h1
      · rcases List.mem_cons.1 my with h2 | h2
        · exact h2.symm
        · have a1 := hy z h1
          have a2 := hz y h2
          have := cmpK_neg y.1 z.1
          omega
    subst e
    congr 1
    refine asc_ext r s (List.pairwise_cons.1 ha).2 (List.pairwise_cons.1 hb).2 (fun key => ?_)
    by_cases hk : z.1 = key
    · rw [← hk, getP_later hz, getP_later hy]
    · have := h key
      rw [show getP key (z :: r) = getP key r from by show (if z.1 = key then _ else _) = _; rw [if_neg hk], show getP key (z :: s) = getP key s from by show (if z.1 = key then _ else _) = _; rw [if_neg hk]] at this
      exact this
def KeysApart (ys : List Prop4) : Prop := ys.Pairwise (fun a b => a.1 ≠ b.1)
theorem afterP_append : ∀ (a b : List Prop4) (key : ByteArray) (c : Val3 × Bool), afterP key (a ++ b) c = afterP key b (afterP key a c)
  | [], _, _, _ => rfl
  | y :: r, b, key, c => afterP_append r b key _
theorem afterP_none : ∀ (a : List Prop4) (key : ByteArray) (c : Val3 × Bool), (∀ y ∈ a, y.1 ≠ key) → afterP key a c = c
  | [], _, _, _ => rfl
  | y :: r, key, c, h => by
    show afterP key r (if y.1 = key then _ else c) = c
    rw [if_neg (h y List.mem_cons_self)]
    exact afterP_none r key c (fun z hz => h z (List.mem_cons_of_mem _ hz))
theorem afterP_some : ∀ (a : List Prop4) (key : ByteArray) (c d : Val3 × Bool), (∃ y ∈ a, y.1 = key) → afterP key a c = afterP key a d
  | [], _, _, _, h => by obtain ⟨y, hy, _⟩ := h; cases hy
  | y :: r, key, c, d, h => by
    show afterP key r (if y.1 = key then (y.2, true) else c) = afterP key r (if y.1 = key then (y.2, true) else d)
    by_cases hk : y.1 = key
    · rw [if_pos hk, if_pos hk]
    · rw [if_neg hk, if_neg hk]
      refine afterP_some r key c d ?_
      obtain ⟨z, hz, e⟩ := h
      rcases List.mem_cons.1 hz with rfl | hz
      · exact absurd e hk
      · exact ⟨z, hz, e⟩
theorem afterP_swap (a b : List Prop4) (key : ByteArray) (c : Val3 × Bool) (h : KeysApart (a ++ b)) : afterP key (b ++ a) c = afterP key (a ++ b) c := by
  rw [afterP_append, afterP_append]
  obtain ⟨_, _, hab⟩ := List.pairwise_append.1 h
  by_cases ha : ∃ y ∈ a, y.1 = key
  · have hb : ∀ y ∈ b, y.1 ≠ key := fun y hy e => by
      obtain ⟨z, hz, e2⟩ := ha
      exact hab z hz y hy (e2.trans e.symm)
    rw [afterP_none b key _ hb, afterP_none b key _ hb]
  · have ha' : ∀ y ∈ a, y.1 ≠ key := fun y hy e => ha ⟨y, hy, e⟩
    rw [afterP_none a key _ ha', afterP_none a key _ ha']
/-- Set in another order, where names differ: the same. -/
theorem setP_turn {zs a b x : List Prop4} (h : setP zs (a ++ b) = (0, x)) (hap : KeysApart (a ++ b)) : setP zs (b ++ a) = (0, x) := by
  obtain ⟨hr, hf, _, _, _, _⟩ := setP_done h
  have hri := (rightP_iff zs).1 hr
  have hall := faultP_all _ hf
  have hall2 : ∀ y ∈ b ++ a, nameK y = true ∧ okK y = true := fun y hy => hall y (by rw [List.mem_append] at hy ⊢; exact hy.symm)
  have hN : Names zs := fun z hz => (hri.2.1 z hz).1
  obtain ⟨g1, g2, g3, g4⟩ := foldP_good (a ++ b) zs hri.2.2 hN hall
  obtain ⟨k1, k2, k3, k4⟩ := foldP_good (b ++ a) zs hri.2.2 hN hall2
  have e : foldP zs (b ++ a) = foldP zs (a ++ b) := asc_ext _ _ k1 g1 (fun key => by rw [k4, g4, afterP_swap a b key _ hap])
  unfold setP at h ⊢
  rw [if_pos hr, setFrom_fold _ _ hall] at h
  rw [if_pos hr, setFrom_fold _ _ hall2, e]
  exact h
theorem setP_fold {zs ys x : List Prop4} (h : setP zs ys = (0, x)) : x = foldP zs ys ∧ x.length ≤ 16 := by
  obtain ⟨hr, hf, _, _, hl, _⟩ := setP_done h
  have hall := faultP_all _ hf
  unfold setP at h
  rw [if_pos hr, setFrom_fold _ _ hall] at h
  by_cases hc : (foldP zs ys).length ≤ 16
  · rw [if_pos hc] at h
    exact ⟨(congrArg Prod.snd h).symm, hl⟩
  · rw [if_neg hc] at h
    exact absurd (show (32 : Int) = 0 from congrArg Prod.fst h) (by decide)
/-- One by one. -/
theorem setP_one {zs ys x : List Prop4} (h : setP zs ys = (0, x)) (k : Nat) (hk : k < ys.length) : setP (foldP zs (ys.take k)) [ys.getD k Prop4.no] = (0, foldP zs (ys.take (k + 1))) := by
  obtain ⟨hr, hf, _, _, _, _⟩ := setP_done h
  obtain ⟨hx, hl⟩ := setP_fold h
  have hri := (rightP_iff zs).1 hr
  have hall := faultP_all _ hf
  have hN : Names zs := fun z hz => (hri.2.1 z hz).1
  have hmem : ys.getD k Prop4.no ∈ ys := by rw [List.getD_eq_getElem?_getD, List.getElem?_eq_getElem hk]; exact List.getElem_mem hk
  obtain ⟨g1, g2, g3, g4⟩ := foldP_good (ys.take k) zs hri.2.2 hN (fun y hy => hall y (List.mem_of_mem_take hy))
  have htk := take_succ_getD ys k hk
  have e1 : foldP zs (ys.take (k + 1)) = foldP (foldP zs (ys.take k)) [ys.getD k Prop4.no] := by rw [htk, foldP_append]
  have hlen : (foldP zs (ys.take (k + 1))).length ≤ 16 := by
    obtain ⟨m1, m2, _, _⟩ := foldP_good (ys.take (k + 1)) zs hri.2.2 hN (fun y hy => hall y (List.mem_of_mem_take hy))
    obtain ⟨_, _, m3, _⟩ := foldP_good (ys.drop (k + 1)) (foldP zs (ys.take (k + 1))) m1 m2 (fun y hy => hall y (List.mem_of_mem_drop hy))
    rw [← foldP_append, List.take_append_drop, ← hx] at m3
    omega
  have hlen0 : (foldP zs (ys.take k)).length ≤ 16 := by
    have := (foldP_good [ys.getD k Prop4.no] (foldP zs (ys.take k)) g1 g2 (fun y hy => by rw [List.mem_singleton.1 hy]; exact hall _ hmem)).2.2.1
    rw [← e1] at this
    omega
  have hrt : rightP (foldP zs (ys.take k)) = true := (rightP_iff _).2 ⟨hlen0, fun z hz => ⟨g2 z hz, foldP_ok _ _ (fun y hy => (hall y (List.mem_of_mem_take hy)).2) (fun z hz => (hri.2.1 z hz).2) z hz⟩, g1⟩
  unfold setP
  rw [if_pos hrt, setFrom_fold _ _ (fun y hy => by rw [List.mem_singleton.1 hy]; exact hall _ hmem), ← e1, if_pos hlen]
theorem dropP_put : ∀ (zs : List Prop4) (p : Prop4) (keys : List ByteArray), Asc zs → Names zs → nameB p.1 = true → goneK keys p = true → dropP (putFrom false zs p) keys = dropP zs keys
  | [], p, keys, _, _, _, hg => by
    show dropP [p] keys = _
    unfold dropP
    rw [List.filter_cons, hg]
    rfl
  | z :: r, p, keys, ha, hn, hp, hg => by
    have ih := dropP_put r p keys (List.pairwise_cons.1 ha).2 (fun y hy => hn y (List.mem_cons_of_mem _ hy)) hp hg
    by_cases h0 : 0 ≤ cmpK z.1 p.1
    · have hr : ∀ y ∈ r, cmpK y.1 p.1 ≠ 0 := fun y hy e => by
        have h1 := (List.pairwise_cons.1 ha).1 y hy
        rw [cmpK_right e] at h1
        omega
      have e : putFrom false (z :: r) p = [p] ++ ((if cmpK z.1 p.1 = 0 then [] else [z]) ++ r) := by
        unfold putFrom
        rw [if_pos ⟨h0, rfl⟩, decide_eq_true h0, Bool.false_or, putFrom_true r p hr]
      rw [e]
      unfold dropP
      by_cases hc : cmpK z.1 p.1 = 0
      · have hz : z.1 = p.1 := name_eq (hn z List.mem_cons_self) hp hc
        have hgz : goneK keys z = true := by unfold goneK at hg ⊢; rw [hz]; exact hg
        rw [if_pos hc, List.nil_append, List.singleton_append, List.filter_cons, List.filter_cons, hg, hgz]
        rfl
      · rw [if_neg hc, List.singleton_append, List.singleton_append, List.filter_cons, hg]
        rfl
    · have e : putFrom false (z :: r) p = z :: putFrom false r p := by
        rw [show putFrom false (z :: r) p = (if 0 ≤ cmpK z.1 p.1 ∧ false = false then [p] else []) ++ ((if cmpK z.1 p.1 = 0 then [] else [z]) ++ putFrom (false || decide (0 ≤ cmpK z.1 p.1)) r p) from rfl]
        rw [if_neg (fun h => by omega), if_neg (by omega), decide_eq_false (by omega)]
        rfl
      rw [e]
      unfold dropP at ih ⊢
      rw [List.filter_cons, List.filter_cons, ih]
theorem dropP_fold : ∀ (ys acc : List Prop4) (keys : List ByteArray), Asc acc → Names acc → (∀ y ∈ ys, nameK y = true ∧ okK y = true) → (∀ y ∈ ys, goneK keys y = true) → dropP (foldP acc ys) keys = dropP acc keys
  | [], _, _, _, _, _, _ => rfl
  | y :: r, acc, keys, ha, hn, hy, hg => by
    have h1 := (hy y List.mem_cons_self).1
    show dropP (foldP (putFrom false acc y) r) keys = _
    rw [dropP_fold r _ keys (putFrom_asc acc y ha).1 (names_put hn h1) (fun z hz => hy z (List.mem_cons_of_mem _ hz)) (fun z hz => hg z (List.mem_cons_of_mem _ hz))]
    exact dropP_put acc y keys ha hn h1 (hg y List.mem_cons_self)
theorem setP_drop {zs ys x : List Prop4} (h : setP zs ys = (0, x)) : dropP x (ys.map (·.1)) = dropP zs (ys.map (·.1)) := by
  obtain ⟨hr, hf, _, _, _, _⟩ := setP_done h
  have hri := (rightP_iff zs).1 hr
  rw [(setP_fold h).1]
  refine dropP_fold ys zs _ hri.2.2 (fun z hz => (hri.2.1 z hz).1) (faultP_all _ hf) (fun y hy => ?_)
  unfold goneK
  rw [List.any_eq_true]
  exact ⟨y.1, List.mem_map.2 ⟨y, hy, rfl⟩, str_same rfl⟩
theorem afterP_last : ∀ (ys : List Prop4) (y : Prop4) (c : Val3 × Bool), afterP y.1 (ys ++ [y]) c = (y.2, true) := fun ys y c => by
  rw [afterP_append]
  show (if y.1 = y.1 then (y.2, true) else _) = _
  rw [if_pos rfl]
theorem RdP.take {w : World} {A : Option Addr} {zs : List Prop4} (h : RdP w A zs) (k : Nat) : RdP w A (zs.take k) := by
  intro j hj
  rw [List.length_take] at hj
  obtain ⟨ad, e, hb, h0, h1, h2, h3⟩ := h j (by omega)
  have eg : (zs.take k).getD j Prop4.no = zs.getD j Prop4.no := by
    rw [List.getD_eq_getElem?_getD, List.getElem?_take, if_pos (by omega), ← List.getD_eq_getElem?_getD]
  rw [eg]
  exact ⟨ad, e, hb, h0, h1, h2, h3⟩
theorem RdP.dropP {w : World} {ad : Addr} {zs : List Prop4} (h : RdP w (some ad) zs) (k : Nat) : RdP w (some (ad.add (k * 4))) (zs.drop k) := by
  intro j hj
  rw [List.length_drop] at hj
  obtain ⟨ae, e, hb, h0, h1, h2, h3⟩ := h (k + j) (by omega)
  obtain rfl : ad = ae := by injection e
  have eg : (zs.drop k).getD j Prop4.no = zs.getD (k + j) Prop4.no := by
    rw [List.getD_eq_getElem?_getD, List.getD_eq_getElem?_getD, List.getElem?_drop]
  rw [eg]
  have ea : ∀ i, (ad.add (k * 4)).add (j * 4 + i) = ad.add ((k + j) * 4 + i) := fun i => by rw [Go.Deep.add_add]; congr 1; omega
  refine ⟨_, rfl, by rw [add_block]; exact hb, ?_, ?_, ?_, ?_⟩
  · have := ea 0
    rw [Nat.add_zero, Nat.add_zero] at this
    rw [this]; exact h0
  · rw [ea]; exact h1
  · rw [ea]; exact h2
  · rw [ea]; exact h3
theorem findP_neg : ∀ (zs : List Prop4) (key : ByteArray) (k0 : Nat), findP key k0 zs < 0 → ∀ z ∈ zs, z.1 ≠ key
  | [], _, _, _ => fun z hz => by cases hz
  | y :: r, key, k0, h => by
    unfold findP at h
    by_cases hk : y.1 = key
    · rw [if_pos hk] at h; omega
    · rw [if_neg hk] at h
      intro z hz
      rcases List.mem_cons.1 hz with rfl | hz
      · exact hk
      · exact findP_neg r key _ h z hz
theorem apart_snoc {zs : List Prop4} {z : Prop4} (h : KeysApart zs) (hf : findP z.1 0 zs < 0) : KeysApart (zs ++ [z]) := by
  refine List.pairwise_append.2 ⟨h, List.pairwise_singleton _ _, fun a ha b hb => ?_⟩
  rw [List.mem_singleton.1 hb]
  exact findP_neg zs z.1 0 hf a ha

theorem str_info : (Tryd.prog.info? 9).map (fun i => (i.zero, i.size, i.bytes)) = some (some (.string ⟨#[]⟩), 1, 16) := by kernel_rfl
def KRow (w : World) (B : Nat) (v : Value) (n : Nat) (ss : List ByteArray) : Prop := w.ownsRow B 9 1 v n (ss.map Value.string)
theorem KRow.len {w : World} {B n : Nat} {v : Value} {ss : List ByteArray} (h : KRow w B v n ss) : ss.length = n := by
  have := h.1
  simpa using this
theorem KRow.rd {w : World} {B n : Nat} {v : Value} {ss : List ByteArray} (h : KRow w B v n ss) : ∃ A c, v = .slice A ss.length c ∧ ss.length ≤ c ∧ RdS w A ss := by
  have hl := h.len
  have hlt := World.ownsRow.lt h
  unfold KRow at h
  rcases h.2 with ⟨hv, hn⟩ | ⟨g, cap, cur, hv, hB, hg, hnc, hrest⟩
  · obtain rfl : ss = [] := List.length_eq_zero_iff.1 (by omega)
    exact ⟨none, 0, by rw [hv]; rfl, Nat.le_refl _, fun k hk => by simp at hk⟩
  · refine ⟨some ⟨g, 0, none⟩, cap, by rw [hv]; congr 1; omega, by omega, fun k hk => ?_⟩
    refine ⟨_, rfl, (hlt g (by rw [hv]; rfl)).2, h.cells (g := g) (by rw [hv]; rfl) k _ ?_⟩
    rw [List.getElem?_map, List.getElem?_eq_getElem hk, List.getD_eq_getElem?_getD, List.getElem?_eq_getElem hk]
    rfl
theorem KRow.below {w w' : World} {B B' n : Nat} {v : Value} {ss : List ByteArray} (h : KRow w B v n ss) (hb : Below B' w w') (hg : w.heap.size ≤ B') : KRow w' B v n ss := by
  have hlt := World.ownsRow.lt h
  unfold KRow at h ⊢
  rcases h.2 with hv | ⟨g', cap, cur, hv, hB, hgg, hrest⟩
  · exact ⟨h.1, .inl hv⟩
  · have h1 := hlt g' (by subst hv; rfl)
    exact ⟨h.1, .inr ⟨g', cap, cur, hv, hB, (hb.block g' (by omega)).trans hgg, hrest⟩⟩
theorem PRow.kept {w w' : World} {B n : Nat} {v : Value} {zs : List Prop4} {row : Option Nat} (h : PRow w B v n zs) (hg : w.grownBy w' row) (hne : v.ownBlock = none ∨ v.ownBlock ≠ row) : PRow w' B v n zs := World.ownsRow.kept h hg hne
theorem str_one (ss : List ByteArray) : ∀ u ∈ ss.map Value.string, u.oneCell' = true := by
  intro u hu
  obtain ⟨s, _, rfl⟩ := List.mem_map.1 hu
  rfl
theorem foldP_mem : ∀ (ys acc : List Prop4), ∀ z ∈ foldP acc ys, z ∈ acc ∨ z ∈ ys
  | [], _ => fun z hz => .inl hz
  | y :: r, acc => fun z hz => by
    rcases foldP_mem r _ z hz with h | h
    · rcases putFrom_mem _ _ _ _ h with h | h
      · exact .inl h
      · exact .inr (by rw [h]; exact List.mem_cons_self)
    · exact .inr (List.mem_cons_of_mem _ h)
theorem fold_take_le {zs ys x : List Prop4} (h : setP zs ys = (0, x)) (k : Nat) : (foldP zs (ys.take k)).length ≤ 16 := by
  obtain ⟨hr, hf, _, _, _, _⟩ := setP_done h
  obtain ⟨hx, hl⟩ := setP_fold h
  have hri := (rightP_iff zs).1 hr
  have hall := faultP_all _ hf
  obtain ⟨m1, m2, _, _⟩ := foldP_good (ys.take k) zs hri.2.2 (fun z hz => (hri.2.1 z hz).1) (fun y hy => hall y (List.mem_of_mem_take hy))
  obtain ⟨_, _, m3, _⟩ := foldP_good (ys.drop k) (foldP zs (ys.take k)) m1 m2 (fun y hy => hall y (List.mem_of_mem_drop hy))
  rw [← foldP_append, List.take_append_drop, ← hx] at m3
  omega
theorem getP_last {zs ys x : List Prop4} (h : setP zs ys = (0, x)) (n : Nat) (hn : ys.length = n + 1) : getP (ys.getD n Prop4.no).1 x = ((ys.getD n Prop4.no).2, true) := by
  obtain ⟨_, _, _, _, _, hg⟩ := setP_done h
  rw [hg]
  have e : ys = ys.take n ++ [ys.getD n Prop4.no] := by
    have := take_succ_getD ys n (by omega)
    rwa [List.take_of_length_le (by omega)] at this
  conv => lhs; arg 2; rw [e]
  exact afterP_last _ _ _

theorem turn_num (t : Int) (n : Nat) (hn : 0 < n) (hn2 : n ≤ 1000) : ∃ K : Nat, K < n ∧ (wrap64 (t.tmod (n : Int) + (n : Int))).tmod (n : Int) = (K : Int) := by
  have h1 := Int.tmod_lt_of_pos t (show (0 : Int) < (n : Int) by omega)
  have h2 : -(n : Int) < t.tmod (n : Int) := by
    have := Int.lt_tmod_of_pos t (show (0 : Int) < (n : Int) by omega)
    exact this
  have hw : wrap64 (t.tmod (n : Int) + (n : Int)) = t.tmod (n : Int) + (n : Int) := by unfold wrap64; omega
  rw [hw]
  have h3 : 0 ≤ t.tmod (n : Int) + (n : Int) := by omega
  have h4 := Int.tmod_nonneg (n : Int) h3
  have h5 := Int.tmod_lt_of_pos (t.tmod (n : Int) + (n : Int)) (show (0 : Int) < (n : Int) by omega)
  exact ⟨((t.tmod (n : Int) + (n : Int)).tmod (n : Int)).toNat, by omega, by omega⟩
theorem step_append_props {ops : Array Oper} {o : Oper} {a : Act} {w : World} {K : Act → World → Prop} {Q : Exit → Act → World → Prop} {E : Prop} (hgd : o.guard = none) (s x : Operand)
    (ho : o.op = .call { callee := .builtin .append, args := #[s, x], argTypes := #[22, 22] }) (B : Nat) (v : Value) (n : Nat) (zs : List Prop4) (hs : a.eval s = v) (hown : PRow w B v n zs)
    (ad : Addr) (m c : Nat) (ys : List Prop4) (hx : a.eval x = .slice (some ad) m c) (hl : ys.length = m) (hrd : RdP w (some ad) ys) (h63 : n + m ≤ 1000000) (hB : B ≤ w.heap.size)
    (h : ∀ v' w', Hid (PRow w' B v' (n + m) (zs ++ ys)) → Hid (w.grownBy w' v.ownBlock) → K (a.put o.dst v') w') :
    if Region.wanted o (yielded ops a.tmps) = true then Oper.wp Tryd.prog o a w K Q else E := by
  have hw : Region.wanted o (yielded ops a.tmps) = true := by simp [Region.wanted, hgd]
  rw [if_pos hw]
  obtain ⟨i0, hi, hz0, hz1, hz2⟩ := info_parts prop_info
  obtain ⟨v', w', hr, h2, h3, _⟩ := run_append_own (P := Tryd.prog) w B 22 o.type 41 i0 _ 4 48 Tryd.underlying22 hi hz0 hz1 hz2 rfl (by decide) v n (zs.flatMap cellsP) hown ad m c (ys.flatMap cellsP) (by rw [cellsP_len, hl]) hrd.cells (cellsP_one ys) (by unfold maxLen; omega) (by omega) hB
  unfold Oper.wp
  simp [execOp, ho, resolve, invoke, builtin, hs, hx, hr, Result.andThen]
  refine h v' w' (show PRow _ _ _ _ _ from ?_) (show World.grownBy _ _ _ from h3)
  unfold PRow
  rw [List.flatMap_append]
  exact h2
end Go.Proofs.YtgacphpkgaobkaaDoor
