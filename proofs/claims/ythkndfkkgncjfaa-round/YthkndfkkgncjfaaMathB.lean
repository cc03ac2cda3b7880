/- Plain lists and numbers: counting over a rearrangement; the order of suffixes; rows. -/
import Derived.Test.YthkndfkkgncjfaaMathA
namespace Go.Proofs.Ythkndfkkgncjfaa.Fo

/-- no n + 1 numbers below n are all different -/
theorem pigeon : ∀ (n : Nat) (f : Nat → Nat), (∀ i, i ≤ n → f i < n) → (∀ i j, i ≤ n → j ≤ n → f i = f j → i = j) → False
  | 0, f, h, _ => by have := h 0 (Nat.le_refl _); omega
  | n + 1, f, h, inj => by
      refine pigeon n (fun i => if f i = n then f (n + 1) else f i) ?_ ?_
      · intro i hi
        have h1 := h i (by omega)
        have h2 := h (n + 1) (Nat.le_refl _)
        by_cases e : f i = n
        · simp only [e, if_true]
          have : f (n + 1) ≠ n := fun e2 => by have := inj i (n + 1) (by omega) (by omega) (by omega); omega
          omega
        · simp only [e, if_false]; omega
      · intro i j hi hj he
        by_cases e1 : f i = n <;> by_cases e2 : f j = n
        · exact inj i j (by omega) (by omega) (by omega)
        · simp only [e1, e2, if_true, if_false] at he
          have := inj (n + 1) j (by omega) (by omega) he; omega
        · simp only [e1, e2, if_true, if_false] at he
          have := inj i (n + 1) (by omega) (by omega) he; omega
        · simp only [e1, e2, if_false] at he
          exact inj i j (by omega) (by omega) he

theorem cnt_other (p q : Nat → Bool) : ∀ n k, k < n → (∀ i, i < n → i ≠ k → p i = q i) → cnt p n + (if q k then 1 else 0) = cnt q n + (if p k then 1 else 0)
  | n + 1, k, hk, h => by
      unfold cnt
      by_cases e : k = n
      · subst e
        rw [cnt_congr p q k (fun i hi => h i (by omega) (by omega))]; omega
      · have h1 := cnt_other p q n k (by omega) (fun i hi hne => h i (by omega) hne)
        have h2 := h n (by omega) (fun e2 => e e2.symm)
        rw [h2]; omega

/-- counting is the same over a rearrangement -/
theorem cnt_perm : ∀ (n : Nat) (f : Nat → Nat) (p : Nat → Bool), (∀ i, i < n → f i < n) → (∀ i j, i < n → j < n → f i = f j → i = j) → cnt (fun k => p (f k)) n = cnt p n
  | 0, _, _, _, _ => rfl
  | n + 1, f, p, h, inj => by
      by_cases e : f n = n
      · have h1 := cnt_perm n f p (fun i hi => by have h2 := h i (by omega); have : f i ≠ n := fun e2 => by have := inj i n (by omega) (by omega) (by omega); omega
                                                  omega) (fun i j hi hj => inj i j (by omega) (by omega))
        show cnt (fun k => p (f k)) n + (if p (f n) then 1 else 0) = cnt p n + (if p n then 1 else 0)
        rw [h1, e]
      · have hn := h n (by omega)
        have hex : ∃ i0, i0 < n ∧ f i0 = n := by
          refine Classical.byContradiction fun hno => pigeon n f (fun i hi => ?_) (fun i j hi hj => inj i j (by omega) (by omega))
          have := h i (by omega)
          have h3 : f i ≠ n := fun e2 => by
            by_cases hin : i = n
            · subst hin; exact e e2
            · exact hno ⟨i, by omega, e2⟩
          omega
        obtain ⟨i0, hi0, hf0⟩ := hex
        have h1 := cnt_perm n (fun i => if f i = n then f n else f i) p
          (fun i hi => by
            have := h i (by omega)
            by_cases e1 : f i = n
            · simp only [e1, if_true]; omega
            · simp only [e1, if_false]; omega)
          (fun i j hi hj he => by
            by_cases e1 : f i = n <;> by_cases e2 : f j = n
            · exact inj i j (by omega) (by omega) (by omega)
            · simp only [e1, e2, if_true, if_false] at he
              have := inj n j (by omega) (by omega) he; omega
            · simp only [e1, e2, if_true, if_false] at he
              have := inj i n (by omega) (by omega) he; omega
            · simp only [e1, e2, if_false] at he
              exact inj i j (by omega) (by omega) he)
        have h2 := cnt_other (fun k => p (f k)) (fun k => p (if f k = n then f n else f k)) n i0 hi0 (fun i hi hne => by
          have : f i ≠ n := fun e2 => hne (inj i i0 (by omega) (by omega) (by omega))
          simp only [this, if_false])
        simp only [hf0, if_true] at h2
        simp only [cnt]
        rw [h1] at h2
        omega

theorem cnt_lt_id : ∀ n m, m ≤ n → cnt (fun k => decide (k < m)) n = m
  | 0, m, h => by have : m = 0 := by omega
                  subst this; rfl
  | n + 1, m, h => by
      unfold cnt
      by_cases e : m = n + 1
      · subst e
        have : cnt (fun k => decide (k < n + 1)) n = cnt (fun k => decide (k < n)) n := cnt_congr _ _ n (fun i hi => by simp [hi]; omega)
        rw [this, cnt_lt_id n n (Nat.le_refl _)]; simp
      · rw [cnt_lt_id n m (by omega)]
        have : ¬ n < m := by omega
        simp [this]

theorem surj (n : Nat) (f : Nat → Nat) (h : ∀ i, i < n → f i < n) (inj : ∀ i j, i < n → j < n → f i = f j → i = j) (r : Nat) (hr : r < n) : ∃ i, i < n ∧ f i = r := by
  refine Classical.byContradiction fun hno => pigeon n (fun i => if i = n then r else f i) (fun i hi => ?_) (fun i j hi hj he => ?_)
  · by_cases e : i = n
    · simp only [e, if_true]; exact hr
    · simp only [e, if_false]; exact h i (by omega)
  · by_cases e1 : i = n <;> by_cases e2 : j = n
    · omega
    · simp only [e1, e2, if_true, if_false] at he
      exact absurd ⟨j, by omega, he.symm⟩ hno
    · simp only [e1, e2, if_true, if_false] at he
      exact absurd ⟨i, by omega, he⟩ hno
    · simp only [e1, e2, if_false] at he
      exact inj i j (by omega) (by omega) he

/-- of a run of trues at the head: its length is how many there are -/
theorem cnt_run (q : Nat → Bool) : ∀ n, (∀ i j, i < j → j < n → q j = true → q i = true) → ∀ i, i < n → (q i = true ↔ i < cnt q n)
  | n + 1, h, i, hi => by
      have ih := cnt_run q n (fun a b hab hb => h a b hab (by omega))
      have hle := cnt_le q n
      cases hq : q n with
      | true =>
        have hall : ∀ j, j < n → q j = true := fun j hj => h j n hj (by omega) hq
        have hc : cnt q n = n := by
          have := cnt_congr q (fun _ => true) n (fun j hj => by rw [hall j hj])
          rw [this]
          exact (cnt_congr _ _ n (fun j hj => by simp [hj])).trans (cnt_lt_id n n (Nat.le_refl _))
        have : cnt q (n + 1) = n + 1 := by simp [cnt, hq, hc]
        rw [this]
        refine ⟨fun _ => hi, fun _ => ?_⟩
        by_cases e : i = n
        · rw [e]; exact hq
        · exact hall i (by omega)
      | false =>
        have : cnt q (n + 1) = cnt q n := by simp [cnt, hq]
        rw [this]
        by_cases e : i = n
        · subst e; rw [hq]; simp; exact hle
        · exact ih i (by omega)

/-! the lexicon -/
theorem lt_trans : ∀ a b c : List UInt8, Op.bytesLess a b = true → Op.bytesLess b c = true → Op.bytesLess a c = true
  | _, _, [], _, h => by cases ‹List UInt8› <;> simp [Op.bytesLess] at h
  | _, [], _ :: _, h, _ => by simp [Op.bytesLess] at h
  | [], _ :: _, _ :: _, _, _ => rfl
  | x :: a, y :: b, z :: c, h1, h2 => by
      simp only [Op.bytesLess, Bool.or_eq_true, Bool.and_eq_true, decide_eq_true_eq, beq_iff_eq] at *
      rcases h1 with h1 | ⟨rfl, h1⟩
      · rcases h2 with h2 | ⟨rfl, h2⟩
        · left; exact UInt8.lt_trans h1 h2
        · left; exact h1
      · rcases h2 with h2 | ⟨rfl, h2⟩
        · left; exact h2
        · right; exact ⟨rfl, lt_trans a b c h1 h2⟩

theorem lt_total : ∀ a b : List UInt8, Op.bytesLess a b = true ∨ a = b ∨ Op.bytesLess b a = true
  | [], [] => .inr (.inl rfl)
  | [], _ :: _ => .inl rfl
  | _ :: _, [] => .inr (.inr rfl)
  | x :: a, y :: b => by
      simp only [Op.bytesLess, Bool.or_eq_true, Bool.and_eq_true, decide_eq_true_eq, beq_iff_eq]
      rcases Nat.lt_trichotomy x.toNat y.toNat with h | h | h
      · left; left; exact UInt8.lt_iff_toNat_lt.2 h
      · have e : x = y := UInt8.toNat_inj.1 h
        subst e
        rcases lt_total a b with h | h | h
        · left; right; exact ⟨rfl, h⟩
        · right; left; rw [h]
        · right; right; right; exact ⟨rfl, h⟩
      · right; right; left; exact UInt8.lt_iff_toNat_lt.2 h

theorem lt_asymm (a b : List UInt8) (h : Op.bytesLess a b = true) : Op.bytesLess b a = false := by
  cases h2 : Op.bytesLess b a with
  | false => rfl
  | true => have := lt_trans a b a h h2; rw [lt_irrefl] at this; cases this

/-! the order -/
section
variable (t : List UInt8)

theorem rank_mono (i j : Nat) (hi : i ≤ t.length) (h : Op.bytesLess (t.drop i) (t.drop j) = true) : rank t i < rank t j :=
  cnt_imp_lt _ _ _ i (by omega) (fun k _ hk => lt_trans _ _ _ hk h) (lt_irrefl _) h

theorem drop_inj (i j : Nat) (hi : i ≤ t.length) (hj : j ≤ t.length) (h : t.drop i = t.drop j) : i = j := by
  have := congrArg List.length h
  simp at this; omega

theorem rank_lt_iff (i j : Nat) (hi : i ≤ t.length) (hj : j ≤ t.length) : rank t i < rank t j ↔ Op.bytesLess (t.drop i) (t.drop j) = true := by
  refine ⟨fun h => ?_, rank_mono t i j hi⟩
  rcases lt_total (t.drop i) (t.drop j) with h1 | h1 | h1
  · exact h1
  · have := drop_inj t i j hi hj h1; subst this; omega
  · have := rank_mono t j i hj h1; omega

theorem rank_inj (i j : Nat) (hi : i ≤ t.length) (hj : j ≤ t.length) (h : rank t i = rank t j) : i = j := by
  rcases lt_total (t.drop i) (t.drop j) with h1 | h1 | h1
  · have := rank_mono t i j hi h1; omega
  · exact drop_inj t i j hi hj h1
  · have := rank_mono t j i hj h1; omega

theorem ordTo_rank : ∀ k, k ≤ t.length + 1 → ∀ i, i < k → (ordTo t k).getD (rank t i) 0 = i
  | k + 1, hk, i, hi => by
      have hl := ordTo_length t k
      have hr := rank_lt t k (by omega)
      rw [ordTo, List.getD_eq_getElem?_getD, List.getElem?_set]
      by_cases e : rank t k = rank t i
      · have := rank_inj t k i (by omega) (by omega) e
        subst this
        simp [hl, hr]
      · have hne : i ≠ k := fun e2 => e (by rw [e2])
        simp only [e, if_false]
        rw [← List.getD_eq_getElem?_getD]
        exact ordTo_rank k (by omega) i (by omega)

/-- the row's offset -/
def off (r : Nat) : Nat := (ord t).getD r 0
theorem off_rank (i : Nat) (hi : i ≤ t.length) : off t (rank t i) = i := ordTo_rank t _ (Nat.le_refl _) i (by omega)
theorem rank_surj (r : Nat) (hr : r ≤ t.length) : ∃ i, i ≤ t.length ∧ rank t i = r := by
  obtain ⟨i, hi, h⟩ := surj (t.length + 1) (rank t) (fun i hi => rank_lt t i (by omega)) (fun i j hi hj => rank_inj t i j (by omega) (by omega)) r (by omega)
  exact ⟨i, by omega, h⟩
theorem rank_off (r : Nat) (hr : r ≤ t.length) : rank t (off t r) = r := by
  obtain ⟨i, hi, rfl⟩ := rank_surj t r hr
  rw [off_rank t i hi]
theorem off_le (r : Nat) : off t r ≤ t.length := by
  unfold off
  by_cases h : r < (ord t).length
  · refine ord_le t _ ?_
    rw [List.getD_eq_getElem?_getD, List.getElem?_eq_getElem h]; exact List.getElem_mem _
  · rw [List.getD_eq_getElem?_getD, List.getElem?_eq_none (by omega)]; exact Nat.zero_le _
theorem off_inj (r q : Nat) (hr : r ≤ t.length) (hq : q ≤ t.length) (h : off t r = off t q) : r = q := by
  rw [← rank_off t r hr, ← rank_off t q hq, h]
theorem off_zero_iff (r : Nat) (hr : r ≤ t.length) : off t r = 0 ↔ r = rank t 0 := by
  refine ⟨fun h => ?_, fun h => ?_⟩
  · rw [← rank_off t r hr, h]
  · rw [h]; exact off_rank t 0 (Nat.zero_le _)

/-- the rows rise -/
theorem off_rises (r q : Nat) (hq : q ≤ t.length) (h : r < q) : Op.bytesLess (t.drop (off t r)) (t.drop (off t q)) = true := by
  refine (rank_lt_iff t _ _ (off_le t r) (off_le t q)).1 ?_
  rw [rank_off t r (by omega), rank_off t q hq]; exact h
end

end Go.Proofs.Ythkndfkkgncjfaa.Fo
