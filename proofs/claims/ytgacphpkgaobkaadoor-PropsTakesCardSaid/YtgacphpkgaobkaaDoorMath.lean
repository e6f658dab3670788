/- Plain Lean, no run of the program: the runes of a text, texts of runes, cuts, the order of texts, patterns, quotes. -/
import Derived.Lib.MapLaws
import Derived.Lib.RuneBytes
import Derived.Lib.ValidLaws
namespace Go.Proofs.YtgacphpkgaobkaaDoor
open Go

/-! ### the runes of a text -/
def runesF : Nat → List UInt8 → List Int
  | 0, _ => []
  | n + 1, l => if l = [] then [] else ((Lib.decodeL l).1 : Int) :: runesF n (l.drop (Lib.decodeL l).2)
def runes (l : List UInt8) : List Int := runesF l.length l

theorem runesF_nil : ∀ n, runesF n [] = []
  | 0 => rfl
  | _ + 1 => by simp [runesF]
theorem runesF_fuel : ∀ (n m : Nat) (l : List UInt8), l.length ≤ n → l.length ≤ m → runesF n l = runesF m l
  | 0, m, l, hn, _ => by
    have : l = [] := List.eq_nil_of_length_eq_zero (by omega)
    subst this; rw [runesF_nil, runesF_nil]
  | n + 1, 0, l, _, hm => by
    have : l = [] := List.eq_nil_of_length_eq_zero (by omega)
    subst this; rw [runesF_nil, runesF_nil]
  | n + 1, m + 1, l, hn, hm => by
    unfold runesF
    by_cases hne : l = []
    · simp [hne]
    · have hw := Lib.decodeL_width l
      have hl : 0 < l.length := List.length_pos_iff.2 hne
      rw [if_neg hne, if_neg hne, runesF_fuel n m (l.drop (Lib.decodeL l).2) (by rw [List.length_drop]; omega) (by rw [List.length_drop]; omega)]
theorem runes_nil : runes [] = [] := rfl
theorem runes_step (l : List UInt8) (hne : l ≠ []) : runes l = ((Lib.decodeL l).1 : Int) :: runes (l.drop (Lib.decodeL l).2) := by
  have hl : 0 < l.length := List.length_pos_iff.2 hne
  have hw := Lib.decodeL_width l
  obtain ⟨n, hn⟩ : ∃ n, l.length = n + 1 := ⟨l.length - 1, by omega⟩
  unfold runes
  rw [hn]
  show (if l = [] then [] else _) = _
  rw [if_neg hne, runesF_fuel n (l.drop (Lib.decodeL l).2).length _ (by rw [List.length_drop]; omega) (Nat.le_refl _)]

/-- An induction by runes. -/
theorem runes_ind {p : List UInt8 → Prop} (h0 : p []) (h1 : ∀ l, l ≠ [] → p (l.drop (Lib.decodeL l).2) → p l) : ∀ l, p l := by
  intro l
  generalize hn : l.length = n
  induction n using Nat.strongRecOn generalizing l with
  | _ n ih =>
    by_cases hne : l = []
    · subst hne; exact h0
    · have hw := Lib.decodeL_width l
      have hl : 0 < l.length := List.length_pos_iff.2 hne
      exact h1 l hne (ih (l.drop (Lib.decodeL l).2).length (by rw [List.length_drop]; omega) _ rfl)

theorem runes_length_le (l : List UInt8) : (runes l).length ≤ l.length := by
  refine runes_ind (p := fun l => (runes l).length ≤ l.length) (by simp [runes_nil]) ?_ l
  intro l hne ih
  have hw := Lib.decodeL_width l
  have hl : 0 < l.length := List.length_pos_iff.2 hne
  rw [runes_step l hne]
  simp only [List.length_cons]
  rw [List.length_drop] at ih
  omega

def okR (r : Int) : Bool := decide ((0 ≤ r ∧ r < 55296) ∨ (57343 < r ∧ r ≤ 1114111))
def norm (r : Int) : Int := if okR r = true then r else 65533
theorem norm_ok {r : Int} (h : okR r = true) : norm r = r := by simp [norm, h]
theorem okR_norm (r : Int) : okR (norm r) = true := by
  unfold norm
  split
  · assumption
  · rfl
theorem okR_decode (l : List UInt8) : okR ((Lib.decodeL l).1 : Int) = true := by
  rw [Lib.decodeL_N]
  unfold okR Lib.decodeN
  have k0 := (l.getD 0 0).toNat_lt
  have k1 := (l.getD 1 0).toNat_lt
  have k2 := (l.getD 2 0).toNat_lt
  have k3 := (l.getD 3 0).toNat_lt
  generalize (l.getD 0 0).toNat = b0 at *
  generalize (l.getD 1 0).toNat = b1 at *
  generalize (l.getD 2 0).toNat = b2 at *
  generalize (l.getD 3 0).toNat = b3 at *
  rw [decide_eq_true_eq]
  repeat' split
  all_goals (dsimp only; omega)
theorem okR_runes (l : List UInt8) : ∀ r ∈ runes l, okR r = true := by
  refine runes_ind (p := fun l => ∀ r ∈ runes l, okR r = true) (by simp [runes_nil]) ?_ l
  intro l hne ih r hr
  rw [runes_step l hne, List.mem_cons] at hr
  rcases hr with rfl | hr
  · exact okR_decode l
  · exact ih r hr
theorem okR_range {r : Int} (h : okR r = true) : 0 ≤ r ∧ r ≤ 1114111 := by
  unfold okR at h
  rw [decide_eq_true_eq] at h
  omega
theorem map_norm_ok : ∀ (rs : List Int), (∀ r ∈ rs, okR r = true) → rs.map norm = rs
  | [], _ => rfl
  | r :: rs, h => by rw [List.map_cons, norm_ok (h r (by simp)), map_norm_ok rs (fun x hx => h x (by simp [hx]))]

/-! ### texts of runes -/
def text (rs : List Int) : List UInt8 := rs.flatMap Lib.encodeRune
theorem text_nil : text [] = [] := rfl
theorem text_cons (r : Int) (rs : List Int) : text (r :: rs) = Lib.encodeRune r ++ text rs := rfl
theorem text_append (a b : List Int) : text (a ++ b) = text a ++ text b := by simp [text]
theorem encode_length (r : Int) : 1 ≤ (Lib.encodeRune r).length ∧ (Lib.encodeRune r).length ≤ 4 := by
  have := Lib.encodeRuneZ_length r
  simpa [Lib.encodeRune] using this
theorem encode_ne (r : Int) : Lib.encodeRune r ≠ [] := by
  intro h
  have := encode_length r
  rw [h] at this
  simp at this
theorem text_length_le : ∀ rs : List Int, (text rs).length ≤ 4 * rs.length
  | [] => by simp [text_nil]
  | r :: rs => by
    have h1 := encode_length r
    have h2 := text_length_le rs
    rw [text_cons, List.length_append, List.length_cons]
    omega

theorem byte_nat (n : Nat) (h : n < 256) : (n.toUInt8).toNat = n := by
  simp; omega

theorem getD_app0 (a : UInt8) (t : List UInt8) : (a :: t).getD 0 0 = a := rfl
theorem getD_app1 (a b : UInt8) (t : List UInt8) : (a :: b :: t).getD 1 0 = b := rfl
theorem getD_app2 (a b c : UInt8) (t : List UInt8) : (a :: b :: c :: t).getD 2 0 = c := rfl
theorem getD_app3 (a b c d : UInt8) (t : List UInt8) : (a :: b :: c :: d :: t).getD 3 0 = d := rfl

theorem encode_one {r : Int} (h0 : 0 ≤ r) (h1 : r ≤ 127) : Lib.encodeRune r = [r.toNat.toUInt8] := by
  unfold Lib.encodeRune; rw [Lib.encodeRuneZ_one h0 h1]; rfl
theorem encode_two {r : Int} (h0 : 128 ≤ r) (h1 : r ≤ 2047) : Lib.encodeRune r = [(192 + r / 64).toNat.toUInt8, (128 + r % 64).toNat.toUInt8] := by
  unfold Lib.encodeRune; rw [Lib.encodeRuneZ_two h0 h1]; rfl
theorem encode_three {r : Int} (h : (2048 ≤ r ∧ r < 55296) ∨ (57343 < r ∧ r ≤ 65535)) : Lib.encodeRune r = [(224 + r / 4096).toNat.toUInt8, (128 + r / 64 % 64).toNat.toUInt8, (128 + r % 64).toNat.toUInt8] := by
  unfold Lib.encodeRune; rw [Lib.encodeRuneZ_three h]; rfl
theorem encode_four {r : Int} (h0 : 65536 ≤ r) (h1 : r ≤ 1114111) : Lib.encodeRune r = [(240 + r / 262144).toNat.toUInt8, (128 + r / 4096 % 64).toNat.toUInt8, (128 + r / 64 % 64).toNat.toUInt8, (128 + r % 64).toNat.toUInt8] := by
  unfold Lib.encodeRune; rw [Lib.encodeRuneZ_four h0 h1]; rfl
theorem encode_bad {r : Int} (h : okR r = false) : Lib.encodeRune r = Lib.encodeRune 65533 := by
  unfold okR at h
  rw [decide_eq_false_iff_not] at h
  unfold Lib.encodeRune
  rw [Lib.encodeRuneZ_bad (by omega), Lib.encodeRuneZ_three (by omega)]
  decide
theorem encode_norm (r : Int) : Lib.encodeRune (norm r) = Lib.encodeRune r := by
  unfold norm
  split
  · rfl
  · rename_i h
    exact (encode_bad (r := r) (by simpa using h)).symm
theorem text_map_norm : ∀ rs : List Int, text (rs.map norm) = text rs
  | [] => rfl
  | r :: rs => by rw [List.map_cons, text_cons, text_cons, encode_norm, text_map_norm rs]

set_option maxHeartbeats 1000000 in
theorem decode_encode_ok (r : Int) (t : List UInt8) (h : okR r = true) : Lib.decodeL (Lib.encodeRune r ++ t) = (r.toNat, (Lib.encodeRune r).length) := by
  unfold okR at h
  rw [decide_eq_true_eq] at h
  rw [Lib.decodeL_N]
  by_cases c1 : r ≤ 127
  · rw [encode_one (by omega) c1]
    simp only [List.cons_append, List.nil_append, getD_app0, List.length_cons, List.length_nil]
    rw [byte_nat _ (by omega)]
    unfold Lib.decodeN
    rw [if_pos (by omega)]
  · by_cases c2 : r ≤ 2047
    · rw [encode_two (by omega) c2]
      simp only [List.cons_append, List.nil_append, getD_app0, getD_app1, List.length_cons, List.length_nil]
      rw [byte_nat _ (by omega), byte_nat _ (by omega)]
      unfold Lib.decodeN
      rw [if_neg (by omega), if_pos (by omega), if_pos (by omega)]
      congr 1
      omega
    · by_cases c3 : r ≤ 65535
      · rw [encode_three (by omega)]
        simp only [List.cons_append, List.nil_append, getD_app0, getD_app1, getD_app2, List.length_cons, List.length_nil]
        rw [byte_nat _ (by omega), byte_nat _ (by omega), byte_nat _ (by omega)]
        unfold Lib.decodeN
        rw [if_neg (by omega), if_neg (by omega), if_pos (by omega), if_pos (by omega)]
        congr 1
        omega
      · rw [encode_four (by omega) (by omega)]
        simp only [List.cons_append, List.nil_append, getD_app0, getD_app1, getD_app2, getD_app3, List.length_cons, List.length_nil]
        rw [byte_nat _ (by omega), byte_nat _ (by omega), byte_nat _ (by omega), byte_nat _ (by omega)]
        unfold Lib.decodeN
        rw [if_neg (by omega), if_neg (by omega), if_neg (by omega), if_pos (by omega), if_pos (by omega)]
        congr 1
        omega
theorem decode_encode (r : Int) (t : List UInt8) : Lib.decodeL (Lib.encodeRune r ++ t) = ((norm r).toNat, (Lib.encodeRune r).length) := by
  rw [← encode_norm r]
  exact decode_encode_ok _ _ (okR_norm r)

theorem runes_encode (r : Int) (t : List UInt8) : runes (Lib.encodeRune r ++ t) = norm r :: runes t := by
  rw [runes_step _ (by simp [encode_ne]), decode_encode]
  have := okR_range (okR_norm r)
  simp only [List.drop_left]
  rw [Int.toNat_of_nonneg this.1]
theorem runes_text : ∀ (rs : List Int) (t : List UInt8), runes (text rs ++ t) = rs.map norm ++ runes t
  | [], t => rfl
  | r :: rs, t => by rw [text_cons, List.append_assoc, runes_encode, runes_text rs t]; rfl
theorem runes_text' (rs : List Int) : runes (text rs) = rs.map norm := by
  have := runes_text rs []
  simpa [runes_nil] using this
theorem runes_text_ok (rs : List Int) (h : ∀ r ∈ rs, okR r = true) : runes (text rs) = rs := by rw [runes_text', map_norm_ok rs h]
theorem runes_text_runes (l : List UInt8) : runes (text (runes l)) = runes l := runes_text_ok _ (okR_runes l)

/-! ### texts that are UTF-8 -/
theorem valid_encode (r : Int) (t : List UInt8) : Lib.validD (Lib.encodeRune r ++ t) = Lib.validD t := by
  rw [Lib.validD_step _ (by simp [encode_ne]), decode_encode]
  have h1 := okR_range (okR_norm r)
  simp only [List.drop_left]
  rw [if_neg]
  intro ⟨e1, e2⟩
  rw [← encode_norm r] at e2
  have e3 : norm r = 65533 := by omega
  rw [e3] at e2
  exact absurd e2 (by decide)
theorem valid_text : ∀ rs : List Int, Lib.validD (text rs) = true
  | [] => rfl
  | r :: rs => by rw [text_cons, valid_encode, valid_text rs]
theorem text_runes (l : List UInt8) : Lib.validD l = true → text (runes l) = l := by
  refine runes_ind (p := fun l => Lib.validD l = true → text (runes l) = l) (fun _ => rfl) ?_ l
  intro l hne ih hv
  rw [Lib.validD_step l hne] at hv
  by_cases hb : (Lib.decodeL l).1 = 65533 ∧ (Lib.decodeL l).2 = 1
  · rw [if_pos hb] at hv; cases hv
  · rw [if_neg hb] at hv
    rw [runes_step l hne, text_cons, Lib.encode_decode l hne hb, ih hv, List.take_append_drop]

/-! ### cuts -/
def cutLen : Nat → List UInt8 → Nat
  | 0, _ => 0
  | n + 1, l => if l = [] then 0 else (Lib.decodeL l).2 + cutLen n (l.drop (Lib.decodeL l).2)
theorem cutLen_nil : ∀ n, cutLen n [] = 0
  | 0 => rfl
  | _ + 1 => by simp [cutLen]
theorem cutLen_step (n : Nat) (l : List UInt8) (hne : l ≠ []) : cutLen (n + 1) l = (Lib.decodeL l).2 + cutLen n (l.drop (Lib.decodeL l).2) := by
  show (if l = [] then 0 else _) = _
  rw [if_neg hne]
theorem cutLen_le : ∀ (n : Nat) (l : List UInt8), cutLen n l ≤ l.length
  | 0, l => Nat.zero_le _
  | n + 1, l => by
    by_cases hne : l = []
    · subst hne; rw [cutLen_nil]; exact Nat.zero_le _
    · rw [cutLen_step n l hne]
      have h1 := cutLen_le n (l.drop (Lib.decodeL l).2)
      have h2 := Lib.decodeL_le l hne
      rw [List.length_drop] at h1
      omega
theorem runes_drop_cut : ∀ (n : Nat) (l : List UInt8), runes (l.drop (cutLen n l)) = (runes l).drop n
  | 0, l => rfl
  | n + 1, l => by
    by_cases hne : l = []
    · subst hne; rw [cutLen_nil]; simp [runes_nil]
    · rw [cutLen_step n l hne, runes_step l hne, List.drop_succ_cons, ← runes_drop_cut n, List.drop_drop]
/-- A rune is read alike where the text ends behind it. -/
theorem decode_take (l : List UInt8) (hne : l ≠ []) (m : Nat) (hm : (Lib.decodeL l).2 ≤ m) : Lib.decodeL (l.take m) = Lib.decodeL l := by
  have hl : 0 < l.length := List.length_pos_iff.2 hne
  have hw := Lib.decodeL_width l
  have g : ∀ j, j < m → (l.take m).getD j 0 = l.getD j 0 := fun j hj => by
    simp [List.getD_eq_getElem?_getD, hj]
  have hm1 : 1 ≤ m := by omega
  have g0 := g 0 (by omega)
  have hlen : (l.take m).length = min m l.length := List.length_take
  rw [Lib.decodeL_N] at hm
  rw [Lib.decodeL_N, Lib.decodeL_N, hlen, g0]
  have z1 : m ≤ 1 → ¬ (1 < min m l.length) := fun h => by omega
  by_cases m1 : m ≤ 1
  · have : min m l.length = 1 := by omega
    rw [this]
    unfold Lib.decodeN at hm ⊢
    by_cases a : (l.getD 0 0).toNat < 128
    · rw [if_pos a, if_pos a]
    · rw [if_neg a, if_neg a, if_neg (by omega), if_neg (by omega), if_neg (by omega)]
      rw [if_neg a] at hm
      revert hm
      repeat' split
      all_goals (dsimp only; intro hm; first | rfl | (exfalso; omega))
  · rw [g 1 (by omega)]
    by_cases m2 : m ≤ 2
    · have e2 : m = 2 := by omega
      subst e2
      unfold Lib.decodeN at hm ⊢
      by_cases a : (l.getD 0 0).toNat < 128
      · rw [if_pos a, if_pos a]
      · rw [if_neg a, if_neg a]
        rw [if_neg a] at hm
        by_cases b : (l.getD 0 0).toNat / 32 = 6 ∧ (1 < l.length ∧ (l.getD 1 0).toNat / 64 = 2)
        · rw [if_pos b, if_pos (by omega)]
        · rw [if_neg b, if_neg (by omega), if_neg (by omega), if_neg (by omega)]
          rw [if_neg b] at hm
          revert hm
          repeat' split
          all_goals (dsimp only; intro hm; first | rfl | (exfalso; omega))
    · rw [g 2 (by omega)]
      by_cases m3 : m ≤ 3
      · have e3 : m = 3 := by omega
        subst e3
        unfold Lib.decodeN at hm ⊢
        by_cases a : (l.getD 0 0).toNat < 128
        · rw [if_pos a, if_pos a]
        · rw [if_neg a, if_neg a]
          rw [if_neg a] at hm
          by_cases b : (l.getD 0 0).toNat / 32 = 6 ∧ (1 < l.length ∧ (l.getD 1 0).toNat / 64 = 2)
          · rw [if_pos b, if_pos (by omega)]
          · rw [if_neg b, if_neg (by omega)]
            rw [if_neg b] at hm
            by_cases c : (l.getD 0 0).toNat / 16 = 14 ∧ (1 < l.length ∧ (l.getD 1 0).toNat / 64 = 2) ∧ (2 < l.length ∧ (l.getD 2 0).toNat / 64 = 2)
            · rw [if_pos c, if_pos (by omega)]
            · rw [if_neg c, if_neg (by omega), if_neg (by omega)]
              rw [if_neg c] at hm
              revert hm
              repeat' split
              all_goals (dsimp only; intro hm; first | rfl | (exfalso; omega))
      · rw [g 3 (by omega)]
        unfold Lib.decodeN
        have q1 : (1 < min m l.length) = (1 < l.length) := propext ⟨fun h => by omega, fun h => by omega⟩
        have q2 : (2 < min m l.length) = (2 < l.length) := propext ⟨fun h => by omega, fun h => by omega⟩
        have q3 : (3 < min m l.length) = (3 < l.length) := propext ⟨fun h => by omega, fun h => by omega⟩
        simp only [q1, q2, q3]
theorem runes_take_cut : ∀ (n : Nat) (l : List UInt8), runes (l.take (cutLen n l)) = (runes l).take n
  | 0, l => by simp [cutLen, runes_nil]
  | n + 1, l => by
    by_cases hne : l = []
    · subst hne; rw [cutLen_nil]; simp [runes_nil]
    · have hw := Lib.decodeL_width l
      have hl : 0 < l.length := List.length_pos_iff.2 hne
      have hd := decode_take l hne (cutLen (n + 1) l) (by rw [cutLen_step n l hne]; omega)
      have hne' : l.take (cutLen (n + 1) l) ≠ [] := by
        intro h
        have := congrArg List.length h
        rw [List.length_take, cutLen_step n l hne] at this
        simp only [List.length_nil] at this
        omega
      rw [runes_step _ hne', hd, runes_step l hne, List.take_succ_cons, ← runes_take_cut n]
      congr 2
      rw [cutLen_step n l hne, List.drop_take]
      congr 1
      omega
theorem cut_cut : ∀ (n m : Nat) (l : List UInt8), cutLen m (l.take (cutLen n l)) = cutLen (min n m) l
  | 0, m, l => by simp [cutLen, cutLen_nil]
  | n + 1, 0, l => by simp [cutLen]
  | n + 1, m + 1, l => by
    by_cases hne : l = []
    · subst hne; simp [cutLen_nil]
    · have hw := Lib.decodeL_width l
      have hl : 0 < l.length := List.length_pos_iff.2 hne
      have hd := decode_take l hne (cutLen (n + 1) l) (by rw [cutLen_step n l hne]; omega)
      have hne' : l.take (cutLen (n + 1) l) ≠ [] := by
        intro h
        have := congrArg List.length h
        rw [List.length_take, cutLen_step n l hne] at this
        simp only [List.length_nil] at this
        omega
      have hmin : min (n + 1) (m + 1) = min n m + 1 := by omega
      rw [hmin, cutLen_step m _ hne', hd, cutLen_step (min n m) l hne, ← cut_cut n m]
      congr 2
      rw [cutLen_step n l hne, List.drop_take]
      congr 1
      omega
theorem cutLen_text : ∀ (n : Nat) (rs : List Int), cutLen n (text rs) = (text (rs.take n)).length
  | 0, rs => rfl
  | n + 1, [] => by simp [text_nil, cutLen_nil]
  | n + 1, r :: rs => by
    rw [text_cons, cutLen_step _ _ (by simp [encode_ne]), decode_encode]
    simp only [List.drop_left]
    rw [cutLen_text n rs, List.take_succ_cons, text_cons, List.length_append]
theorem text_take (n : Nat) (rs : List Int) : (text rs).take (cutLen n (text rs)) = text (rs.take n) := by
  have h : text rs = text (rs.take n) ++ text (rs.drop n) := by rw [← text_append, List.take_append_drop]
  rw [cutLen_text, h, List.take_left]
/-- Behind the last rune. -/
theorem cutLen_all (l : List UInt8) : ∀ n, (runes l).length ≤ n → cutLen n l = l.length := by
  refine runes_ind (p := fun l => ∀ n, (runes l).length ≤ n → cutLen n l = l.length) (fun n _ => cutLen_nil n) ?_ l
  intro l hne ih n hn
  rw [runes_step l hne, List.length_cons] at hn
  obtain ⟨k, rfl⟩ : ∃ k, n = k + 1 := ⟨n - 1, by omega⟩
  have h2 := Lib.decodeL_le l hne
  rw [cutLen_step k l hne, ih k (by omega), List.length_drop]
  omega

/-! ### the order of texts -/
def cmpL : List Int → List Int → Int
  | [], [] => 0
  | [], _ :: _ => -1
  | _ :: _, [] => 1
  | a :: x, b :: y => if a < b then -1 else if b < a then 1 else cmpL x y
theorem cmpL_self : ∀ x, cmpL x x = 0
  | [] => rfl
  | a :: x => by simp [cmpL, cmpL_self x]
theorem cmpL_neg : ∀ x y, cmpL y x = - cmpL x y
  | [], [] => rfl
  | [], _ :: _ => rfl
  | _ :: _, [] => rfl
  | a :: x, b :: y => by
    unfold cmpL
    rw [cmpL_neg x y]
    repeat' split
    all_goals omega
theorem cmpL_range : ∀ x y, cmpL x y = -1 ∨ cmpL x y = 0 ∨ cmpL x y = 1
  | [], [] => by simp [cmpL]
  | [], _ :: _ => by simp [cmpL]
  | _ :: _, [] => by simp [cmpL]
  | a :: x, b :: y => by
    unfold cmpL
    have := cmpL_range x y
    repeat' split
    all_goals omega
theorem cmpL_trans : ∀ x y z, cmpL x y ≤ 0 → cmpL y z ≤ 0 → cmpL x z ≤ 0
  | [], [], z, _, h => h
  | [], _ :: _, [], _, _ => by simp [cmpL]
  | [], _ :: _, _ :: _, _, _ => by simp [cmpL]
  | _ :: _, [], _, h, _ => by simp [cmpL] at h
  | _ :: _, _ :: _, [], _, h => by simp [cmpL] at h
  | a :: x, b :: y, c :: z, h1, h2 => by
    unfold cmpL at h1 h2 ⊢
    by_cases ab : a < b
    · by_cases bc : b < c
      · rw [if_pos (by omega)]; omega
      · by_cases cb : c < b
        · rw [if_neg bc, if_pos cb] at h2; omega
        · rw [if_pos (by omega)]; omega
    · by_cases ba : b < a
      · rw [if_neg ab, if_pos ba] at h1; omega
      · rw [if_neg ab, if_neg ba] at h1
        by_cases bc : b < c
        · rw [if_pos (by omega)]; omega
        · by_cases cb : c < b
          · rw [if_neg bc, if_pos cb] at h2; omega
          · rw [if_neg bc, if_neg cb] at h2
            rw [if_neg (by omega), if_neg (by omega)]
            exact cmpL_trans x y z h1 h2
theorem cmpL_zero : ∀ x y, cmpL x y = 0 ↔ x = y
  | [], [] => by simp [cmpL]
  | [], _ :: _ => by simp [cmpL]
  | _ :: _, [] => by simp [cmpL]
  | a :: x, b :: y => by
    unfold cmpL
    rw [List.cons.injEq]
    by_cases ab : a < b
    · rw [if_pos ab]; constructor
      · intro h; omega
      · intro ⟨h, _⟩; omega
    · by_cases ba : b < a
      · rw [if_neg ab, if_pos ba]; constructor
        · intro h; omega
        · intro ⟨h, _⟩; omega
      · rw [if_neg ab, if_neg ba, cmpL_zero x y]
        constructor
        · intro h; exact ⟨by omega, h⟩
        · intro h; exact h.2
theorem cmpL_head : ∀ h x y, cmpL (h ++ x) (h ++ y) = cmpL x y
  | [], _, _ => rfl
  | a :: h, x, y => by
    show (if a < a then -1 else if a < a then 1 else cmpL (h ++ x) (h ++ y)) = _
    rw [if_neg (by omega), if_neg (by omega), cmpL_head h x y]
theorem cmpL_more (x y : List Int) : cmpL x (x ++ y) = if y = [] then 0 else -1 := by
  have := cmpL_head x [] y
  rw [List.append_nil] at this
  rw [this]
  cases y <;> rfl

/-! ### patterns -/
def fitsL : List Int → List Int → Bool
  | s, [] => s.isEmpty
  | [], p :: ps => p == 42 && fitsL [] ps
  | c :: s, p :: ps => if p = 42 then fitsL (c :: s) ps || fitsL s (p :: ps) else (p == 63 || p == c) && fitsL s ps
termination_by s p => s.length + p.length

theorem fitsL_self : ∀ s, fitsL s s = true
  | [] => by simp [fitsL]
  | c :: s => by
    have ih := fitsL_self s
    unfold fitsL
    split
    · rename_i h
      subst h
      have : fitsL s (42 :: s) = true := by
        cases s with
        | nil => simp [fitsL]
        | cons d s => unfold fitsL; simp [ih]
      simp [this]
    · simp [ih]
theorem fitsL_star (s p : List Int) (h : fitsL s p = true) : fitsL s (42 :: p) = true := by
  cases s with
  | nil => unfold fitsL; simp [h]
  | cons c s => unfold fitsL; simp [h]
/-- A star more, wherever, fits no less. -/
theorem fitsL_more (q : List Int) : ∀ (n : Nat) (s p : List Int), s.length + p.length ≤ n → fitsL s (p ++ q) = true → fitsL s (p ++ 42 :: q) = true
  | _, s, [], _, h => fitsL_star s q h
  | 0, _, p :: ps, hn, _ => by simp at hn
  | n + 1, [], p :: ps, hn, h => by
    simp only [List.cons_append] at h ⊢
    unfold fitsL at h ⊢
    rw [Bool.and_eq_true] at h ⊢
    exact ⟨h.1, fitsL_more q n [] ps (by simp at hn ⊢; omega) h.2⟩
  | n + 1, c :: s, p :: ps, hn, h => by
    simp only [List.cons_append] at h ⊢
    unfold fitsL at h ⊢
    split
    · rename_i h42
      rw [if_pos h42, Bool.or_eq_true] at h
      rw [Bool.or_eq_true]
      rcases h with h | h
      · exact .inl (fitsL_more q n (c :: s) ps (by simp at hn ⊢; omega) h)
      · exact .inr (fitsL_more q n s (p :: ps) (by simp at hn ⊢; omega) h)
    · rename_i h42
      rw [if_neg h42, Bool.and_eq_true] at h
      rw [Bool.and_eq_true]
      exact ⟨h.1, fitsL_more q n s ps (by simp at hn ⊢; omega) h.2⟩
/-- Without signs it is the same text. -/
theorem fitsL_plain : ∀ (s p : List Int), (∀ x ∈ p, x ≠ 42 ∧ x ≠ 63) → (fitsL s p = true ↔ s = p)
  | s, [], _ => by unfold fitsL; simp
  | [], p :: ps, h => by
    have := h p (by simp)
    unfold fitsL
    simp [this.1]
  | c :: s, p :: ps, h => by
    have h1 := h p (by simp)
    have ih := fitsL_plain s ps (fun x hx => h x (by simp [hx]))
    unfold fitsL
    rw [if_neg h1.1, Bool.and_eq_true, ih]
    simp [h1.2]
    intro _
    exact ⟨Eq.symm, Eq.symm⟩

/-! ### names, folded texts -/
def isLet (r : Int) : Bool := decide ((97 ≤ r ∧ r ≤ 122) ∨ (65 ≤ r ∧ r ≤ 90) ∨ r = 95 ∨ (192 ≤ r ∧ r ≤ 591 ∧ r ≠ 215 ∧ r ≠ 247))
def isDig (r : Int) : Bool := decide (48 ≤ r ∧ r ≤ 57)
def nameL : List Int → Bool
  | [] => false
  | r :: rs => isLet r && rs.all (fun x => isLet x || isDig x) && decide (rs.length < 32)
def foldR (r : Int) : Int := if (65 ≤ r ∧ r ≤ 90) ∨ (192 ≤ r ∧ r ≤ 222 ∧ r ≠ 215) then r + 32 else r
theorem foldR_fold (r : Int) : foldR (foldR r) = foldR r := by
  unfold foldR
  repeat' split
  all_goals omega
theorem foldR_ok {r : Int} (h : okR r = true) : okR (foldR r) = true := by
  unfold okR at h ⊢
  unfold foldR
  rw [decide_eq_true_eq] at h ⊢
  split <;> omega
def foldL (l : List UInt8) : List UInt8 := text ((runes l).map foldR)
theorem runes_fold (l : List UInt8) : runes (foldL l) = (runes l).map foldR := by
  unfold foldL
  refine runes_text_ok _ (fun r hr => ?_)
  obtain ⟨x, hx, rfl⟩ := List.mem_map.1 hr
  exact foldR_ok (okR_runes l x hx)
theorem fold_fold (l : List UInt8) : foldL (foldL l) = foldL l := by
  have h := runes_fold l
  unfold foldL at h ⊢
  rw [h, List.map_map]
  congr 1
  exact List.map_congr_left (fun r _ => foldR_fold r)

/-! ### quotes -/
def esc (r : Int) : List Int := if r = 34 ∨ r = 92 then [92, r] else if r = 10 then [92, 110] else [r]
def escs (rs : List Int) : List Int := rs.flatMap esc
theorem escs_cons (r : Int) (rs : List Int) : escs (r :: rs) = esc r ++ escs rs := rfl
def quoteL (l : List UInt8) : List UInt8 := 34 :: (text (escs (runes l)) ++ [34])
def meantR (r : Int) : Option Int := if r = 34 ∨ r = 92 then some r else if r = 110 then some 10 else none
def unescS : Bool → List Int → Option (List Int)
  | true, [] => none
  | false, [] => some []
  | true, r :: rs => match meantR r with
    | none => none
    | some m => (unescS false rs).map (m :: ·)
  | false, r :: rs => if r = 92 then unescS true rs else if r = 34 ∨ r = 10 then none else (unescS false rs).map (r :: ·)
theorem unesc_escs : ∀ rs, unescS false (escs rs) = some rs
  | [] => rfl
  | r :: rs => by
    have ih := unesc_escs rs
    rw [escs_cons]
    unfold esc
    split
    · rename_i h
      simp [unescS, meantR, h, ih]
    · split
      · rename_i h1 h2
        subst h2
        simp [unescS, meantR, ih]
      · rename_i h1 h2
        show (if r = 92 then _ else if r = 34 ∨ r = 10 then none else (unescS false (escs rs)).map (r :: ·)) = _
        rw [if_neg (by omega), if_neg (by omega), ih]
        rfl
theorem escs_unesc : ∀ (xs : List Int) (b : Bool) (ys : List Int), unescS b xs = some ys → (if b = true then 92 :: xs else xs) = escs ys
  | [], true, ys, h => by simp [unescS] at h
  | [], false, ys, h => by simp [unescS] at h; subst h; rfl
  | r :: xs, true, ys, h => by
    unfold unescS at h
    cases hm : meantR r with
    | none => rw [hm] at h; cases h
    | some m =>
      rw [hm] at h
      cases hu : unescS false xs with
      | none => rw [hu] at h; simp at h
      | some zs =>
        rw [hu] at h
        simp at h
        subst h
        have ih := escs_unesc xs false zs hu
        simp at ih
        rw [escs_cons, ← ih]
        unfold meantR at hm
        unfold esc
        split at hm
        · rename_i hq
          injection hm with hm
          subst hm
          simp [hq]
        · split at hm
          · rename_i hq hn
            injection hm with hm
            subst hm; subst hn
            simp
          · cases hm
  | r :: xs, false, ys, h => by
    unfold unescS at h
    split at h
    · rename_i h92
      have ih := escs_unesc xs true ys h
      simp at ih
      subst h92
      simpa using ih
    · split at h
      · cases h
      · rename_i h92 hq
        cases hu : unescS false xs with
        | none => rw [hu] at h; simp at h
        | some zs =>
          rw [hu] at h
          simp at h
          subst h
          have ih := escs_unesc xs false zs hu
          simp at ih
          show r :: xs = _
          rw [escs_cons, ← ih]
          unfold esc
          rw [if_neg (by omega), if_neg (by omega)]
          rfl
theorem unescS_length : ∀ (xs : List Int) (b : Bool) (ys : List Int), unescS b xs = some ys → ys.length ≤ xs.length
  | [], true, ys, h => by simp [unescS] at h
  | [], false, ys, h => by simp [unescS] at h; subst h; simp
  | r :: xs, true, ys, h => by
    unfold unescS at h
    cases hm : meantR r with
    | none => rw [hm] at h; cases h
    | some m =>
      rw [hm] at h
      cases hu : unescS false xs with
      | none => rw [hu] at h; simp at h
      | some zs =>
        rw [hu] at h
        simp at h
        subst h
        have := unescS_length xs false zs hu
        simp; omega
  | r :: xs, false, ys, h => by
    unfold unescS at h
    split at h
    · have := unescS_length xs true ys h
      simp; omega
    · split at h
      · cases h
      · cases hu : unescS false xs with
        | none => rw [hu] at h; simp at h
        | some zs =>
          rw [hu] at h
          simp at h
          subst h
          have := unescS_length xs false zs hu
          simp; omega
theorem ok_escs (rs : List Int) (h : ∀ r ∈ rs, okR r = true) : ∀ r ∈ escs rs, okR r = true := by
  intro r hr
  obtain ⟨x, hx, hr⟩ := List.mem_flatMap.1 hr
  have hxo := h x hx
  unfold esc at hr
  split at hr
  · simp at hr
    rcases hr with rfl | rfl
    · rfl
    · exact hxo
  · split at hr
    · simp at hr
      rcases hr with rfl | rfl <;> rfl
    · simp at hr; subst hr; exact hxo

/-- Byte by byte: a backslash stands for what is behind it. -/
def ub : List UInt8 → List UInt8
  | [] => []
  | [c] => [c]
  | c :: d :: t => if c = 92 then (if d = 110 then 10 else d) :: ub t else c :: ub (d :: t)
theorem ub_cons (c : UInt8) (t : List UInt8) (h : c ≠ 92) : ub (c :: t) = c :: ub t := by
  cases t with
  | nil => rfl
  | cons d t => show (if c = 92 then _ else _) = _; rw [if_neg h]
theorem ub_append : ∀ (a t : List UInt8), (∀ c ∈ a, c ≠ 92) → ub (a ++ t) = a ++ ub t
  | [], _, _ => rfl
  | c :: a, t, h => by
    rw [List.cons_append, ub_cons _ _ (h c (by simp)), ub_append a t (fun x hx => h x (by simp [hx]))]
    rfl
theorem encode_high (r : Int) (h : r ≠ 92) : ∀ c ∈ Lib.encodeRune r, c ≠ 92 := by
  intro c hc e
  subst e
  unfold Lib.encodeRune at hc
  obtain ⟨x, hx, hxe⟩ := List.mem_map.1 hc
  have hb := Lib.encodeRuneZ_byte r x hx
  have hx92 : x = 92 := by
    have h2 := congrArg UInt8.toNat hxe
    rw [byte_nat _ (by omega)] at h2
    have : (92 : UInt8).toNat = 92 := rfl
    omega
  subst hx92
  unfold Lib.encodeRuneZ at hx
  repeat' split at hx
  all_goals simp only [List.mem_cons, List.mem_nil_iff, or_false] at hx
  all_goals omega
theorem ub_escs : ∀ rs : List Int, ub (text (escs rs)) = text rs
  | [] => rfl
  | r :: rs => by
    have ih := ub_escs rs
    rw [escs_cons, text_append, text_cons]
    unfold esc
    split
    · rename_i h
      rcases h with rfl | rfl
      · show ub (92 :: 34 :: text (escs rs)) = _
        show (if (92 : UInt8) = 92 then _ else _) = _
        rw [if_pos rfl, ih]
        rfl
      · show ub (92 :: 92 :: text (escs rs)) = _
        show (if (92 : UInt8) = 92 then _ else _) = _
        rw [if_pos rfl, ih]
        rfl
    · split
      · rename_i h
        subst h
        show ub (92 :: 110 :: text (escs rs)) = _
        show (if (92 : UInt8) = 92 then _ else _) = _
        rw [if_pos rfl, ih]
        rfl
      · have e1 : text [r] = Lib.encodeRune r := by simp [text]
        rw [e1, ub_append _ _ (encode_high r (by omega)), ih]
/-- What Unquote answers: the text between the marks, if it is one. -/
def unquoteL (l : List UInt8) : Option (List UInt8) :=
  if 2 ≤ l.length ∧ l.head? = some 34 ∧ l.getLast? = some 34 ∧ Lib.validD l = true then (unescS false (runes (l.drop 1).dropLast)).map text else none
end Go.Proofs.YtgacphpkgaobkaaDoor
