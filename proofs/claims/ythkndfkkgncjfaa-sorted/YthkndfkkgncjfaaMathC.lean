/- Plain lists and numbers: the turn; the way back along it. -/
import Derived.Test.YthkndfkkgncjfaaMathB
namespace Go.Proofs.Ythkndfkkgncjfaa.Fo

/-- a row's place in the turn, the row without a byte being left out -/
def place (row r : Nat) : Nat := if row < r then r - 1 else r
/-- and back -/
def seat (row p : Nat) : Nat := if p < row then p else p + 1
theorem seat_place (row r : Nat) (h : r ≠ row) : seat row (place row r) = r := by unfold seat place; split <;> split <;> omega
theorem place_seat (row p : Nat) : place row (seat row p) = p := by unfold seat place; split <;> split <;> omega
theorem seat_ne (row p : Nat) : seat row p ≠ row := by unfold seat; split <;> omega
theorem place_lt (row r n : Nat) (h : r ≠ row) (hr : r ≤ n) (hw : row ≤ n) : place row r < n := by unfold place; split <;> omega
theorem seat_le (row p n : Nat) (h : p < n) : seat row p ≤ n := by unfold seat; split <;> omega
theorem place_mono (row r q : Nat) (hr : r ≠ row) (hq : q ≠ row) : place row r < place row q ↔ r < q := by unfold place; split <;> split <;> omega

section
variable (t : List UInt8)

theorem row_le : rank t 0 ≤ t.length := by have := rank_lt t 0 (Nat.zero_le _); omega

theorem turnTo_before : ∀ k, k ≤ rank t 0 → turnTo t (ord t) k = ((List.range k).map (fun r => t.getD (off t r - 1) 0), 0)
  | 0, _ => rfl
  | k + 1, h => by
      have hne : off t k ≠ 0 := fun e => by have := (off_zero_iff t k (by have := row_le t; omega)).1 e; omega
      rw [turnTo, if_neg (show ¬ (ord t).getD k 0 = 0 from hne), turnTo_before k (by omega), List.range_succ, List.map_append]
      rfl

theorem turnTo_after : ∀ k, rank t 0 < k → k ≤ t.length + 1 → turnTo t (ord t) k = ((List.range (k - 1)).map (fun p => t.getD (off t (seat (rank t 0) p) - 1) 0), rank t 0)
  | k + 1, h, hk => by
      rw [turnTo]
      by_cases e : k = rank t 0
      · have hz : off t k = 0 := (off_zero_iff t k (by omega)).2 e
        rw [if_pos (show (ord t).getD k 0 = 0 from hz), turnTo_before t k (by omega), ← e]
        simp only [Nat.add_sub_cancel, Prod.mk.injEq, and_true]
        refine List.map_congr_left (fun r hr => ?_)
        simp only [List.mem_range] at hr
        simp [seat, hr]
      · have hne : off t k ≠ 0 := fun e2 => e ((off_zero_iff t k (by omega)).1 e2)
        have ih := turnTo_after k (by omega) (by omega)
        rw [if_neg (show ¬ (ord t).getD k 0 = 0 from hne), ih]
        have hs : List.range (k + 1 - 1) = List.range (k - 1) ++ [k - 1] := by
          rw [← List.range_succ]; congr 1; omega
        rw [hs, List.map_append]
        have hk2 : seat (rank t 0) (k - 1) = k := by unfold seat; split <;> omega
        simp only [List.map_cons, List.map_nil, hk2]
        rfl

theorem turn_eq : turn t = ((List.range t.length).map (fun p => t.getD (off t (seat (rank t 0) p) - 1) 0), rank t 0) := by
  have := turnTo_after t (t.length + 1) (by have := row_le t; omega) (Nat.le_refl _)
  simpa [turn] using this
theorem turn_len : (turn t).1.length = t.length := by rw [turn_eq]; simp
theorem turn_row : (turn t).2 = rank t 0 := by rw [turn_eq]
theorem turn_get (p : Nat) (h : p < t.length) : (turn t).1.getD p 0 = t.getD (off t (seat (rank t 0) p) - 1) 0 := by
  rw [turn_eq]; simp [h]
theorem turn_at (r : Nat) (hr : r ≤ t.length) (hne : r ≠ rank t 0) : (turn t).1.getD (place (rank t 0) r) 0 = t.getD (off t r - 1) 0 := by
  rw [turn_get t _ (place_lt _ _ _ hne hr (row_le t)), seat_place _ _ hne]
theorem turn_rank (i : Nat) (hi : i < t.length) : (turn t).1.getD (place (rank t 0) (rank t (i + 1))) 0 = t.getD i 0 := by
  have hne : rank t (i + 1) ≠ rank t 0 := fun e => by have := rank_inj t (i + 1) 0 (by omega) (by omega) e; omega
  have hr := rank_lt t (i + 1) (by omega)
  rw [turn_at t _ (by omega) hne, off_rank t (i + 1) (by omega)]; rfl
end

/-! places of the turn, sorted by their bytes -/
section
variable (last : List UInt8)

/-- does the byte at p go ahead of that at q? -/
def sooner (p q : Nat) : Bool := decide (last.getD p 0 < last.getD q 0) || (last.getD p 0 == last.getD q 0 && decide (p < q))
/-- the row of the suffix that begins with the byte at p -/
def longer (p : Nat) : Nat := 1 + cnt (fun i => sooner last i p) last.length

theorem sooner_irrefl (p : Nat) : sooner last p p = false := by simp [sooner, UInt8.lt_irrefl]
theorem sooner_trans (p q r : Nat) (h1 : sooner last p q = true) (h2 : sooner last q r = true) : sooner last p r = true := by
  simp only [sooner, Bool.or_eq_true, Bool.and_eq_true, decide_eq_true_eq, beq_iff_eq] at *
  rcases h1 with h1 | ⟨e1, h1⟩
  · rcases h2 with h2 | ⟨e2, h2⟩
    · left; exact UInt8.lt_trans h1 h2
    · left; rw [← e2]; exact h1
  · rcases h2 with h2 | ⟨e2, h2⟩
    · left; rw [e1]; exact h2
    · right; exact ⟨e1.trans e2, by omega⟩
theorem sooner_total (p q : Nat) : sooner last p q = true ∨ p = q ∨ sooner last q p = true := by
  simp only [sooner, Bool.or_eq_true, Bool.and_eq_true, decide_eq_true_eq, beq_iff_eq]
  rcases Nat.lt_trichotomy (last.getD p 0).toNat (last.getD q 0).toNat with h | h | h
  · left; left; exact UInt8.lt_iff_toNat_lt.2 h
  · have e : last.getD p 0 = last.getD q 0 := UInt8.toNat_inj.1 h
    rcases Nat.lt_trichotomy p q with h1 | h1 | h1
    · left; right; exact ⟨e, h1⟩
    · right; left; exact h1
    · right; right; right; exact ⟨e.symm, h1⟩
  · right; right; left; exact UInt8.lt_iff_toNat_lt.2 h
theorem longer_mono (p q : Nat) (hp : p < last.length) (h : sooner last p q = true) : longer last p < longer last q := by
  unfold longer
  have := cnt_imp_lt (fun i => sooner last i p) (fun i => sooner last i q) last.length p hp (fun i _ hi => sooner_trans last _ _ _ hi h) (sooner_irrefl last p) h
  omega
theorem longer_inj (p q : Nat) (hp : p < last.length) (hq : q < last.length) (h : longer last p = longer last q) : p = q := by
  rcases sooner_total last p q with h1 | h1 | h1
  · have := longer_mono last p q hp h1; omega
  · exact h1
  · have := longer_mono last q p hq h1; omega
theorem longer_le (p : Nat) (hp : p < last.length) : longer last p ≤ last.length := by
  have := cnt_lt (fun i => sooner last i p) last.length p hp (sooner_irrefl last p)
  unfold longer; omega
theorem longer_pos (p : Nat) : 1 ≤ longer last p := by unfold longer; omega

variable (row : Nat)
/-- the way back: k steps from the row of the empty suffix: where it stands, and the bytes that were met -/
def un : Nat → Option (Nat × List UInt8)
  | 0 => some (0, [])
  | k + 1 => match un k with
    | none => none
    | some (a, T) => if a = row then none else some (longer last (place row a), last.getD (place row a) 0 :: T)
end

/-! a text's own turn leads back to it -/
section
variable (t : List UInt8)

theorem cons_at (i : Nat) (hi : i < t.length) : t.drop i = t.getD i 0 :: t.drop (i + 1) := by
  rw [List.drop_eq_getElem_cons hi, List.getD_eq_getElem?_getD, List.getElem?_eq_getElem hi]; rfl

theorem sooner_turn (i j : Nat) (hi : i < t.length) (hj : j < t.length) :
    sooner (turn t).1 (place (rank t 0) (rank t (i + 1))) (place (rank t 0) (rank t (j + 1))) = Op.bytesLess (t.drop i) (t.drop j) := by
  have h1 : rank t (i + 1) ≠ rank t 0 := fun e => by have := rank_inj t (i + 1) 0 (by omega) (by omega) e; omega
  have h2 : rank t (j + 1) ≠ rank t 0 := fun e => by have := rank_inj t (j + 1) 0 (by omega) (by omega) e; omega
  rw [cons_at t i hi, cons_at t j hj, Op.bytesLess]
  unfold sooner
  rw [turn_rank t i hi, turn_rank t j hj]
  congr 2
  rw [Bool.eq_iff_iff]
  simp only [decide_eq_true_eq]
  rw [place_mono _ _ _ h1 h2, rank_lt_iff t _ _ (by omega) (by omega)]

theorem longer_turn (i : Nat) (hi : i < t.length) : longer (turn t).1 (place (rank t 0) (rank t (i + 1))) = rank t i := by
  have hne : ∀ m, m < t.length → rank t (m + 1) ≠ rank t 0 := fun m hm e => by have := rank_inj t (m + 1) 0 (by omega) (by omega) e; omega
  unfold longer
  rw [turn_len]
  rw [← cnt_perm t.length (fun m => place (rank t 0) (rank t (m + 1))) (fun p => sooner (turn t).1 p (place (rank t 0) (rank t (i + 1))))
    (fun m hm => place_lt _ _ _ (hne m hm) (by have := rank_lt t (m + 1) (by omega); omega) (row_le t))
    (fun a b ha hb he => by
      have h3 := congrArg (seat (rank t 0)) he
      simp only [seat_place _ _ (hne a ha), seat_place _ _ (hne b hb)] at h3
      have := rank_inj t _ _ (by omega) (by omega) h3; omega)]
  rw [cnt_congr _ (fun m => Op.bytesLess (t.drop m) (t.drop i)) t.length (fun m hm => sooner_turn t m i hm hi)]
  unfold rank ahead aheadTo
  have hlast : Op.bytesLess (t.drop t.length) (t.drop i) = true := by rw [List.drop_length, cons_at t i hi]; rfl
  simp only [cnt, hlast, if_true]
  omega

theorem rank_end : rank t t.length = 0 := by
  unfold rank ahead aheadTo
  rw [List.drop_length]
  rw [cnt_congr _ (fun _ => false) _ (fun i _ => by cases t.drop i <;> rfl)]
  generalize t.length + 1 = n
  induction n with
  | zero => rfl
  | succ n ih => simp [cnt, ih]

theorem un_turn : ∀ k, k ≤ t.length → un (turn t).1 (rank t 0) k = some (rank t (t.length - k), t.drop (t.length - k))
  | 0, _ => by simp [un, rank_end]
  | k + 1, h => by
      rw [un, un_turn k (by omega)]
      have e : t.length - k = (t.length - (k + 1)) + 1 := by omega
      have hne : rank t (t.length - k) ≠ rank t 0 := fun e => by have := rank_inj t _ 0 (by omega) (by omega) e; omega
      simp only [hne, if_false]
      rw [e, longer_turn t _ (by omega), turn_rank t _ (by omega), ← cons_at t _ (by omega)]
theorem un_turn_all : un (turn t).1 (rank t 0) t.length = some (rank t 0, t) := by
  have := un_turn t t.length (Nat.le_refl _)
  simpa using this
end

/-! what comes of any bytes and row has just that turn -/
section
variable (last : List UInt8) (row : Nat)

/-- where the way back stands behind k steps, if it comes so far -/
def pos : Nat → Nat
  | 0 => 0
  | k + 1 => longer last (place row (pos k))
/-- and the bytes -/
def bytesTo : Nat → List UInt8
  | 0 => []
  | k + 1 => last.getD (place row (pos last row k)) 0 :: bytesTo k

theorem un_some : ∀ k r, un last row k = some r → (∀ j, j < k → pos last row j ≠ row) ∧ r = (pos last row k, bytesTo last row k)
  | 0, r, h => by simp [un] at h; subst h; exact ⟨fun j hj => by omega, rfl⟩
  | k + 1, r, h => by
      rw [un] at h
      cases hu : un last row k with
      | none => rw [hu] at h; simp at h
      | some x =>
        obtain ⟨h1, h2⟩ := un_some k x hu
        rw [hu, h2] at h
        simp only at h
        by_cases e : pos last row k = row
        · simp [e] at h
        · simp only [e, if_false, Option.some.injEq] at h
          refine ⟨fun j hj => ?_, h.symm⟩
          by_cases ej : j = k
          · rw [ej]; exact e
          · exact h1 j (by omega)
theorem un_none : ∀ k, un last row k = none → ∃ j, j < k ∧ pos last row j = row
  | 0, h => by simp [un] at h
  | k + 1, h => by
      rw [un] at h
      cases hu : un last row k with
      | none => obtain ⟨j, hj, e⟩ := un_none k hu; exact ⟨j, by omega, e⟩
      | some x =>
        obtain ⟨_, h2⟩ := un_some last row k x hu
        rw [hu, h2] at h
        simp only at h
        by_cases e : pos last row k = row
        · exact ⟨k, by omega, e⟩
        · simp [e] at h
theorem un_of : ∀ k, (∀ j, j < k → pos last row j ≠ row) → un last row k = some (pos last row k, bytesTo last row k)
  | 0, _ => rfl
  | k + 1, h => by
      rw [un, un_of k (fun j hj => h j (by omega))]
      simp only [h k (by omega), if_false]
      rfl

theorem bytesTo_len : ∀ k, (bytesTo last row k).length = k
  | 0 => rfl
  | k + 1 => by simp [bytesTo, bytesTo_len k]

variable (hrow : row ≤ last.length) (hok : ∀ j, j < last.length → pos last row j ≠ row)

theorem pos_le : ∀ k, k ≤ last.length → (∀ j, j < last.length → pos last row j ≠ row) → row ≤ last.length → pos last row k ≤ last.length
  | 0, _, _, _ => Nat.zero_le _
  | k + 1, h, hok, hrow => by
      have := pos_le k (by omega) hok hrow
      exact longer_le last _ (place_lt _ _ _ (hok k (by omega)) this hrow)

theorem pos_le' : ∀ k, k ≤ last.length → (∀ j, j < k → pos last row j ≠ row) → row ≤ last.length → pos last row k ≤ last.length
  | 0, _, _, _ => Nat.zero_le _
  | k + 1, h, hok, hrow => by
      have := pos_le' k (by omega) (fun j hj => hok j (by omega)) hrow
      exact longer_le last _ (place_lt _ _ _ (hok k (by omega)) this hrow)

theorem pos_inj (hrow : row ≤ last.length) (hok : ∀ j, j < last.length → pos last row j ≠ row) : ∀ j k, j < k → k ≤ last.length → pos last row j ≠ pos last row k
  | 0, k + 1, _, _ => by
      have := longer_pos last (place row (pos last row k))
      show 0 ≠ longer last (place row (pos last row k)); omega
  | j + 1, k + 1, h, hk => by
      intro e
      have h1 := place_lt row (pos last row j) last.length (hok j (by omega)) (pos_le last row j (by omega) hok hrow) hrow
      have h2 := place_lt row (pos last row k) last.length (hok k (by omega)) (pos_le last row k (by omega) hok hrow) hrow
      have h3 := congrArg (seat row) (longer_inj last _ _ h1 h2 e)
      rw [seat_place _ _ (hok j (by omega)), seat_place _ _ (hok k (by omega))] at h3
      exact pos_inj hrow hok j k (by omega) (by omega) h3

theorem pos_end (hrow : row ≤ last.length) (hok : ∀ j, j < last.length → pos last row j ≠ row) : pos last row last.length = row := by
  obtain ⟨i, hi, h⟩ := surj (last.length + 1) (pos last row) (fun i hi => by have := pos_le last row i (by omega) hok hrow; omega)
    (fun i j hi hj he => by
      rcases Nat.lt_trichotomy i j with h | h | h
      · exact absurd he (pos_inj last row hrow hok i j h (by omega))
      · exact h
      · exact absurd he.symm (pos_inj last row hrow hok j i h (by omega))) row (by omega)
  by_cases e : i = last.length
  · rw [← e]; exact h
  · exact absurd h (hok i (by omega))

/-- the text -/
def text : List UInt8 := bytesTo last row last.length
theorem text_len : (text last row).length = last.length := bytesTo_len _ _ _
theorem bytesTo_drop : ∀ k i, i ≤ k → (bytesTo last row k).drop i = bytesTo last row (k - i)
  | k, 0, _ => by simp
  | k + 1, i + 1, h => by
      rw [bytesTo, List.drop_succ_cons, bytesTo_drop k i (by omega)]; congr 1; omega
/-- the row of the suffix at i -/
def rowAt (i : Nat) : Nat := pos last row (last.length - i)
theorem text_drop (i : Nat) (h : i ≤ last.length) : (text last row).drop i = bytesTo last row (last.length - i) := bytesTo_drop last row _ i h
theorem text_cons (i : Nat) (h : i < last.length) : (text last row).drop i = last.getD (place row (rowAt last row (i + 1))) 0 :: (text last row).drop (i + 1) := by
  rw [text_drop last row i (by omega), text_drop last row (i + 1) (by omega)]
  have e : last.length - i = (last.length - (i + 1)) + 1 := by omega
  rw [e]; rfl
theorem rowAt_step (i : Nat) (h : i < last.length) : rowAt last row i = longer last (place row (rowAt last row (i + 1))) := by
  unfold rowAt
  have e : last.length - i = (last.length - (i + 1)) + 1 := by omega
  rw [e]; rfl

theorem rowAt_mono (hrow : row ≤ last.length) (hok : ∀ j, j < last.length → pos last row j ≠ row) : ∀ d i j, last.length - i = d → i ≤ last.length → j ≤ last.length →
    Op.bytesLess ((text last row).drop i) ((text last row).drop j) = true → rowAt last row i < rowAt last row j
  | 0, i, j, hd, hi, hj, h => by
      have ei : i = last.length := by omega
      by_cases ej : j = last.length
      · rw [ei, ej, lt_irrefl] at h; cases h
      · rw [rowAt_step last row j (by omega)]
        have := longer_pos last (place row (rowAt last row (j + 1)))
        have : rowAt last row i = 0 := by unfold rowAt; rw [ei, Nat.sub_self]; rfl
        omega
  | d + 1, i, j, hd, hi, hj, h => by
      have hil : i < last.length := by omega
      by_cases ej : j = last.length
      · have e0 : (text last row).drop j = [] := by rw [ej, ← text_len last row, List.drop_length]
        rw [e0] at h
        cases hx : (text last row).drop i <;> rw [hx] at h <;> simp [Op.bytesLess] at h
      · have hjl : j < last.length := by omega
        have ne1 : rowAt last row (i + 1) ≠ row := hok _ (by omega)
        have ne2 : rowAt last row (j + 1) ≠ row := hok _ (by omega)
        have p1 : place row (rowAt last row (i + 1)) < last.length := place_lt _ _ _ ne1 (pos_le last row _ (by omega) hok hrow) hrow
        rw [rowAt_step last row i hil, rowAt_step last row j hjl]
        refine longer_mono last _ _ p1 ?_
        rw [text_cons last row i hil, text_cons last row j hjl, Op.bytesLess] at h
        unfold sooner
        simp only [Bool.or_eq_true, Bool.and_eq_true, decide_eq_true_eq, beq_iff_eq] at *
        rcases h with h | ⟨h1, h2⟩
        · left; exact h
        · right
          refine ⟨h1, ?_⟩
          rw [place_mono _ _ _ ne1 ne2]
          exact rowAt_mono hrow hok d (i + 1) (j + 1) (by omega) (by omega) (by omega) h2

theorem rowAt_le (hrow : row ≤ last.length) (hok : ∀ j, j < last.length → pos last row j ≠ row) (i : Nat) : rowAt last row i ≤ last.length := pos_le last row _ (by omega) hok hrow
theorem rowAt_inj (hrow : row ≤ last.length) (hok : ∀ j, j < last.length → pos last row j ≠ row) (i j : Nat) (hi : i ≤ last.length) (hj : j ≤ last.length) (h : rowAt last row i = rowAt last row j) : i = j := by
  unfold rowAt at h
  rcases Nat.lt_trichotomy (last.length - i) (last.length - j) with h1 | h1 | h1
  · exact absurd h (pos_inj last row hrow hok _ _ h1 (by omega))
  · omega
  · exact absurd h.symm (pos_inj last row hrow hok _ _ h1 (by omega))

theorem rank_rowAt (hrow : row ≤ last.length) (hok : ∀ j, j < last.length → pos last row j ≠ row) (i : Nat) (hi : i ≤ last.length) : rank (text last row) i = rowAt last row i := by
  unfold rank ahead aheadTo
  rw [text_len]
  have hc := cnt_perm (last.length + 1) (rowAt last row) (fun r => decide (r < rowAt last row i)) (fun k _ => by have := rowAt_le last row hrow hok k; omega) (fun a b ha hb => rowAt_inj last row hrow hok a b (by omega) (by omega))
  rw [cnt_lt_id _ _ (by have := rowAt_le last row hrow hok i; omega)] at hc
  rw [← hc]
  refine cnt_congr _ _ _ (fun k hk => ?_)
  rw [Bool.eq_iff_iff]
  simp only [decide_eq_true_eq]
  refine ⟨rowAt_mono last row hrow hok _ k i rfl (by omega) hi, fun h => ?_⟩
  rcases lt_total ((text last row).drop k) ((text last row).drop i) with h1 | h1 | h1
  · exact h1
  · have := drop_inj (text last row) k i (by rw [text_len]; omega) (by rw [text_len]; omega) h1
    subst this; omega
  · have := rowAt_mono last row hrow hok _ i k rfl hi (by omega) h1; omega

theorem text_get (i : Nat) (h : i < last.length) : (text last row).getD i 0 = last.getD (place row (rowAt last row (i + 1))) 0 := by
  have h1 := cons_at (text last row) i (by rw [text_len]; exact h)
  rw [text_cons last row i h] at h1
  simp only [List.cons.injEq] at h1
  exact h1.1.symm

theorem turn_text (hrow : row ≤ last.length) (hok : ∀ j, j < last.length → pos last row j ≠ row) : turn (text last row) = (last, row) := by
  have hr0 : rank (text last row) 0 = row := by
    rw [rank_rowAt last row hrow hok 0 (Nat.zero_le _)]
    exact pos_end last row hrow hok
  rw [turn_eq, hr0, text_len]
  refine Prod.ext ?_ rfl
  refine List.ext_getElem (by simp) (fun p h1 h2 => ?_)
  simp only [List.getElem_map, List.getElem_range]
  have hp : p < last.length := h2
  have hs := seat_le row p last.length hp
  have hsn := seat_ne row p
  obtain ⟨i, hi, hri⟩ := rank_surj (text last row) (seat row p) (by rw [text_len]; exact hs)
  rw [text_len] at hi
  have hi0 : i ≠ 0 := fun e => by rw [e, hr0] at hri; exact hsn hri.symm
  rw [← hri, off_rank (text last row) i (by rw [text_len]; exact hi), text_get last row (i - 1) (by omega)]
  have e1 : i - 1 + 1 = i := by omega
  rw [e1, ← rank_rowAt last row hrow hok i hi, hri, place_seat, List.getD_eq_getElem?_getD, List.getElem?_eq_getElem hp]
  rfl
end

end Go.Proofs.Ythkndfkkgncjfaa.Fo
