/- Plain lists and numbers: the bytes of a turn in rising order; the way forwards. -/
import Derived.Test.YthkndfkkgncjfaaMathC
namespace Go.Proofs.Ythkndfkkgncjfaa.Fo
section
variable (last : List UInt8)

/-- places of one byte, among the first k -/
def fIn (c : Nat) : Nat → List Nat
  | 0 => []
  | k + 1 => fIn c k ++ (if (last.getD k 0).toNat = c then [k] else [])
/-- places of all bytes below c, byte by byte -/
def fTo : Nat → List Nat
  | 0 => []
  | c + 1 => fTo c ++ fIn last c last.length

theorem fIn_len (c : Nat) : ∀ k, (fIn last c k).length = cnt (fun i => decide ((last.getD i 0).toNat = c)) k
  | 0 => rfl
  | k + 1 => by
      rw [fIn, List.length_append, fIn_len c k, cnt]
      by_cases e : (last.getD k 0).toNat = c
      · rw [if_pos e, if_pos (decide_eq_true e)]; rfl
      · rw [if_neg e, if_neg (by rw [decide_eq_true_eq]; exact e)]; rfl
theorem fIn_lt (c : Nat) : ∀ k, ∀ x ∈ fIn last c k, x < k
  | 0, x, h => by simp [fIn] at h
  | k + 1, x, h => by
      rw [fIn, List.mem_append] at h
      rcases h with h | h
      · have := fIn_lt c k x h; omega
      · by_cases e : (last.getD k 0).toNat = c
        · rw [if_pos e, List.mem_singleton] at h; omega
        · rw [if_neg e] at h; cases h
theorem fTo_lt : ∀ c, ∀ x ∈ fTo last c, x < last.length
  | 0, x, h => by simp [fTo] at h
  | c + 1, x, h => by
      rw [fTo, List.mem_append] at h
      rcases h with h | h
      · exact fTo_lt c x h
      · exact fIn_lt last c _ x h
theorem cnt_or (p q r : Nat → Bool) (h : ∀ i, r i = (p i || q i)) (hd : ∀ i, p i = true → q i = false) : ∀ n, cnt r n = cnt p n + cnt q n
  | 0 => rfl
  | n + 1 => by
      have ih := cnt_or p q r h hd n
      have h1 := h n
      have h2 := hd n
      unfold cnt
      cases hp : p n <;> cases hq : q n <;> simp_all <;> omega
theorem fTo_len : ∀ c, (fTo last c).length = cnt (fun i => decide ((last.getD i 0).toNat < c)) last.length
  | 0 => by
      rw [cnt_congr _ (fun _ => false) _ (fun i _ => by simp)]
      generalize last.length = n
      induction n with
      | zero => rfl
      | succ n ih => simp [cnt, ← ih]
  | c + 1 => by
      rw [fTo, List.length_append, fTo_len c, fIn_len]
      refine (cnt_or _ _ _ (fun i => ?_) (fun i hi => ?_) _).symm
      · rw [Bool.eq_iff_iff]; simp; omega
      · simp at *; omega
theorem fTo_all : (fTo last 256).length = last.length := by
  rw [fTo_len]
  rw [cnt_congr _ (fun k => decide (k < last.length)) _ (fun i hi => by
    have := UInt8.toNat_lt (last.getD i 0)
    simp only [hi, decide_true, decide_eq_true_eq]; omega)]
  exact cnt_lt_id _ _ (Nat.le_refl _)

theorem fIn_prefix (c k : Nat) : ∀ d, ∃ R, fIn last c (k + d) = fIn last c k ++ R
  | 0 => ⟨[], by simp⟩
  | d + 1 => by
      obtain ⟨R, hR⟩ := fIn_prefix c k d
      refine ⟨R ++ (if (last.getD (k + d) 0).toNat = c then [k + d] else []), ?_⟩
      show fIn last c (k + d + 1) = _
      rw [fIn, hR, List.append_assoc]
theorem fTo_prefix (c : Nat) : ∀ d, ∃ R, fTo last (c + d) = fTo last c ++ R
  | 0 => ⟨[], by simp⟩
  | d + 1 => by
      obtain ⟨R, hR⟩ := fTo_prefix c d
      refine ⟨R ++ fIn last (c + d) last.length, ?_⟩
      show fTo last (c + d + 1) = _
      rw [fTo, hR, List.append_assoc]

theorem longer_split (p : Nat) (hp : p < last.length) : longer last p = 1 + ((fTo last (last.getD p 0).toNat).length + (fIn last (last.getD p 0).toNat p).length) := by
  unfold longer
  rw [fTo_len, fIn_len]
  congr 1
  have h1 : cnt (fun i => decide ((last.getD i 0).toNat = (last.getD p 0).toNat)) p = cnt (fun i => decide ((last.getD i 0).toNat = (last.getD p 0).toNat) && decide (i < p)) last.length := by
    have key : ∀ d, cnt (fun i => decide ((last.getD i 0).toNat = (last.getD p 0).toNat) && decide (i < p)) (p + d) = cnt (fun i => decide ((last.getD i 0).toNat = (last.getD p 0).toNat)) p := by
      intro d
      induction d with
      | zero => exact cnt_congr _ _ _ (fun i hi => by rw [decide_eq_true (show i < p from hi), Bool.and_true])
      | succ d ih =>
        show cnt _ (p + d) + _ = _
        rw [ih]
        have : ¬ (p + d < p) := by omega
        simp [this]
    have := key (last.length - p)
    rw [show p + (last.length - p) = last.length by omega] at this
    exact this.symm
  rw [h1]
  refine cnt_or _ _ _ (fun i => ?_) (fun i hi => ?_) _
  · unfold sooner
    rw [Bool.eq_iff_iff]
    simp [UInt8.lt_iff_toNat_lt, UInt8.toNat_inj]
  · simp only [decide_eq_true_eq] at hi
    rw [decide_eq_false (show ¬ (last.getD i 0).toNat = (last.getD p 0).toNat by omega), Bool.false_and]

/-- in rising order, the byte at p stands where its row says -/
theorem firsts_get (p : Nat) (hp : p < last.length) : (fTo last 256).getD (longer last p - 1) 0 = p := by
  have hb := UInt8.toNat_lt (last.getD p 0)
  obtain ⟨R1, h1⟩ := fTo_prefix last ((last.getD p 0).toNat + 1) (255 - (last.getD p 0).toNat)
  rw [show (last.getD p 0).toNat + 1 + (255 - (last.getD p 0).toNat) = 256 by omega] at h1
  obtain ⟨R2, h2⟩ := fIn_prefix last (last.getD p 0).toNat (p + 1) (last.length - (p + 1))
  rw [show p + 1 + (last.length - (p + 1)) = last.length by omega] at h2
  rw [h1, fTo, h2, fIn, if_pos rfl, longer_split last p hp]
  rw [show 1 + ((fTo last (last.getD p 0).toNat).length + (fIn last (last.getD p 0).toNat p).length) - 1 = (fTo last (last.getD p 0).toNat).length + (fIn last (last.getD p 0).toNat p).length by omega]
  rw [List.append_assoc, List.append_assoc, List.append_assoc, List.getD_eq_getElem?_getD, List.getElem?_append_right (by omega)]
  rw [show (fTo last (last.getD p 0).toNat).length + (fIn last (last.getD p 0).toNat p).length - (fTo last (last.getD p 0).toNat).length = (fIn last (last.getD p 0).toNat p).length by omega]
  rw [List.getElem?_append_right (by omega)]
  simp

variable (row : Nat)
/-- the way forwards: j steps from a row -/
def fw : Nat → Nat × List UInt8
  | 0 => (row, [])
  | j + 1 => if (fw j).1 = 0 then fw j else (seat row ((fTo last 256).getD ((fw j).1 - 1) 0), (fw j).2 ++ [last.getD ((fTo last 256).getD ((fw j).1 - 1) 0) 0])

theorem fw_stop (j : Nat) (h : (fw last row j).1 = 0) : ∀ d, fw last row (j + d) = fw last row j
  | 0 => rfl
  | d + 1 => by
      show fw last row (j + d + 1) = _
      have ih := fw_stop j h d
      rw [fw, ih, if_pos h]
theorem fw_len : ∀ j, (fw last row j).2.length ≤ j
  | 0 => Nat.le_refl _
  | j + 1 => by
      have := fw_len j
      rw [fw]
      split
      · omega
      · simp; omega
theorem firsts_lt (i : Nat) (h : i < last.length) : (fTo last 256).getD i 0 < last.length := by
  refine fTo_lt last 256 _ ?_
  have hl := fTo_all last
  rw [List.getD_eq_getElem?_getD, List.getElem?_eq_getElem (by omega)]; exact List.getElem_mem _
theorem fw_le (hrow : row ≤ last.length) : ∀ j, (fw last row j).1 ≤ last.length
  | 0 => hrow
  | j + 1 => by
      have ih := fw_le hrow j
      rw [fw]
      split
      · exact ih
      · exact seat_le row _ _ (firsts_lt last _ (by omega))
end

theorem rank_pos (t : List UInt8) (j : Nat) (hj : j < t.length) : rank t j ≠ 0 := fun e => by
  have := rank_inj t j t.length (by omega) (Nat.le_refl _) (by rw [e, rank_end]); omega

theorem fw_turn (t : List UInt8) : ∀ j, j ≤ t.length → fw (turn t).1 (rank t 0) j = (rank t j, t.take j)
  | 0, _ => by simp [fw]
  | j + 1, h => by
      have ih := fw_turn t j (by omega)
      have hp := rank_pos t j (by omega)
      have hne : rank t (j + 1) ≠ rank t 0 := fun e => by have := rank_inj t (j + 1) 0 (by omega) (by omega) e; omega
      have hr := rank_lt t (j + 1) (by omega)
      have hpl : place (rank t 0) (rank t (j + 1)) < (turn t).1.length := by rw [turn_len]; exact place_lt _ _ _ hne (by omega) (row_le t)
      have hg := firsts_get (turn t).1 _ hpl
      rw [longer_turn t j (by omega)] at hg
      rw [fw, ih]
      simp only [hp, if_false]
      rw [hg, seat_place _ _ hne, turn_rank t j (by omega)]
      refine Prod.ext rfl ?_
      rw [List.take_succ_eq_append_getElem (show j < t.length by omega), List.getD_eq_getElem?_getD, List.getElem?_eq_getElem (show j < t.length by omega)]
      rfl
theorem fw_turn_all (t : List UInt8) : (fw (turn t).1 (rank t 0) t.length).2 = t := by
  rw [fw_turn t _ (Nat.le_refl _)]; simp

/-- a turn that is some text's leads back to it -/
theorem un_of_turn (last : List UInt8) (row : Nat) (t : List UInt8) (h : turn t = (last, row)) : un last row last.length = some (row, t) := by
  have h1 := un_turn_all t
  have h2 := turn_row t
  have h3 := turn_len t
  rw [h] at h1 h2 h3
  simp only at h2 h3
  rw [← h2, ← h3] at h1
  exact h1
theorem fw_of_turn (last : List UInt8) (row : Nat) (t : List UInt8) (h : turn t = (last, row)) : (fw last row last.length).2 = t := by
  have h1 := fw_turn_all t
  have h2 := turn_row t
  have h3 := turn_len t
  rw [h] at h1 h2 h3
  simp only at h2 h3
  rw [← h2, ← h3] at h1
  exact h1

end Go.Proofs.Ythkndfkkgncjfaa.Fo
