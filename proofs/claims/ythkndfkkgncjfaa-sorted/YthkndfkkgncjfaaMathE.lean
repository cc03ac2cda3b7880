/- Plain lists and numbers: suffixes that begin with a pattern. -/
import Derived.Test.YthkndfkkgncjfaaMathD
namespace Go.Proofs.Ythkndfkkgncjfaa.Fo

/-- does the suffix at i begin with the pattern? -/
def pre (t p : List UInt8) (i : Nat) : Bool := decide ((t.drop i).take p.length = p)
/-- how many suffixes do -/
def begun (t p : List UInt8) : Nat := cnt (pre t p) (t.length + 1)

theorem pre_short (t p : List UInt8) (i : Nat) (h : t.length < i + p.length) : pre t p i = false ∨ p = [] := by
  by_cases e : p = []
  · exact .inr e
  · left
    unfold pre
    rw [decide_eq_false_iff_not]
    intro h2
    have := congrArg List.length h2
    simp at this
    have hp : 0 < p.length := by cases p with | nil => exact absurd rfl e | cons => simp
    omega
theorem cnt_false (p : Nat → Bool) (k : Nat) : ∀ d, (∀ i, k ≤ i → i < k + d → p i = false) → cnt p (k + d) = cnt p k
  | 0, _ => rfl
  | d + 1, h => by
      show cnt p (k + d) + (if p (k + d) then 1 else 0) = _
      rw [cnt_false p k d (fun i h1 h2 => h i h1 (by omega)), h (k + d) (by omega) (by omega)]; rfl
theorem begun_short (t p : List UInt8) (h : t.length < p.length) : begun t p = 0 := by
  unfold begun
  have := cnt_false (pre t p) 0 (t.length + 1) (fun i _ hi => by
    rcases pre_short t p i (by omega) with h1 | h1
    · exact h1
    · rw [h1] at h; simp at h)
  simpa [cnt] using this
theorem begun_long (t p : List UInt8) (h : p.length ≤ t.length) : begun t p = cnt (pre t p) (t.length - p.length + 1) := by
  unfold begun
  have := cnt_false (pre t p) (t.length - p.length + 1) p.length (fun i h1 hh => by
    rcases pre_short t p i (by omega) with h2 | h2
    · exact h2
    · have : p.length = 0 := by rw [h2]; rfl
      omega)
  rwa [show t.length - p.length + 1 + p.length = t.length + 1 by omega] at this

/-! a text and a pattern: the one goes ahead, or begins with it, or goes behind -/
theorem lt_pre : ∀ (a p : List UInt8), a.take p.length = p → Op.bytesLess a p = false
  | _, [], _ => by cases ‹List UInt8› <;> rfl
  | [], y :: p, h => by simp at h
  | x :: a, y :: p, h => by
      simp only [List.length_cons, List.take_succ_cons, List.cons.injEq] at h
      obtain ⟨rfl, h⟩ := h
      simp [Op.bytesLess, lt_pre a p h, UInt8.lt_irrefl]
theorem part3 : ∀ (a p : List UInt8), Op.bytesLess a p = true ∨ a.take p.length = p ∨ (Op.bytesLess p a = true ∧ a.take p.length ≠ p)
  | _, [] => .inr (.inl (by simp))
  | [], _ :: _ => .inl rfl
  | x :: a, y :: p => by
      simp only [Op.bytesLess, Bool.or_eq_true, Bool.and_eq_true, decide_eq_true_eq, beq_iff_eq, List.length_cons, List.take_succ_cons, List.cons.injEq, ne_eq]
      rcases Nat.lt_trichotomy x.toNat y.toNat with h | h | h
      · left; left; exact UInt8.lt_iff_toNat_lt.2 h
      · have e : x = y := UInt8.toNat_inj.1 h
        subst e
        rcases part3 a p with h1 | h1 | h1
        · left; right; exact ⟨rfl, h1⟩
        · right; left; exact ⟨rfl, h1⟩
        · right; right
          exact ⟨.inr ⟨rfl, h1.1⟩, fun h2 => h1.2 h2.2⟩
      · right; right
        exact ⟨.inl (UInt8.lt_iff_toNat_lt.2 h), fun h2 => by rw [h2.1] at h; omega⟩
/-- what goes behind a pattern without beginning with it goes behind all that begin with it -/
theorem lt_behind : ∀ (a b p : List UInt8), a.take p.length = p → Op.bytesLess p b = true → b.take p.length ≠ p → Op.bytesLess a b = true
  | _, _, [], _, _, h => by simp at h
  | [], _, _ :: _, h, _, _ => by simp at h
  | _ :: _, [], _ :: _, _, h, _ => by simp [Op.bytesLess] at h
  | x :: a, y :: b, z :: p, h1, h2, h3 => by
      simp only [List.length_cons, List.take_succ_cons, List.cons.injEq, ne_eq] at h1 h3
      obtain ⟨rfl, h1⟩ := h1
      simp only [Op.bytesLess, Bool.or_eq_true, Bool.and_eq_true, decide_eq_true_eq, beq_iff_eq] at *
      rcases h2 with h2 | ⟨rfl, h2⟩
      · left; exact h2
      · right; exact ⟨rfl, lt_behind a b p h1 h2 (fun h => h3 ⟨rfl, h⟩)⟩

section
variable (t p : List UInt8)

theorem ahead_rows : cnt (fun r => Op.bytesLess (t.drop (off t r)) p) (t.length + 1) = ahead t p :=
  cnt_perm (t.length + 1) (off t) (fun i => Op.bytesLess (t.drop i) p) (fun r _ => by have := off_le t r; omega) (fun r q hr hq => off_inj t r q (by omega) (by omega))
theorem begun_rows : cnt (fun r => pre t p (off t r)) (t.length + 1) = begun t p :=
  cnt_perm (t.length + 1) (off t) (pre t p) (fun r _ => by have := off_le t r; omega) (fun r q hr hq => off_inj t r q (by omega) (by omega))

/-- the rows ahead of the pattern are the first ones -/
theorem row_ahead (r : Nat) (hr : r ≤ t.length) : Op.bytesLess (t.drop (off t r)) p = true ↔ r < ahead t p := by
  have h := cnt_run (fun r => Op.bytesLess (t.drop (off t r)) p) (t.length + 1) (fun i j hij hj hq => lt_trans _ _ _ (off_rises t i j (by omega) hij) hq) r (by omega)
  rw [ahead_rows] at h
  exact h
theorem row_upto (r : Nat) (hr : r ≤ t.length) : (Op.bytesLess (t.drop (off t r)) p || pre t p (off t r)) = true ↔ r < ahead t p + begun t p := by
  have h := cnt_run (fun r => Op.bytesLess (t.drop (off t r)) p || pre t p (off t r)) (t.length + 1) (fun i j hij hj hq => ?_) r (by omega)
  · rw [cnt_or (fun r => Op.bytesLess (t.drop (off t r)) p) (fun r => pre t p (off t r)) _ (fun _ => rfl) (fun i hi => ?_), ahead_rows, begun_rows] at h
    · exact h
    · unfold pre
      rw [decide_eq_false_iff_not]
      intro h2
      rw [lt_pre _ _ h2] at hi; cases hi
  · simp only [Bool.or_eq_true] at *
    have hr1 := off_rises t i j (by omega) hij
    rcases hq with hq | hq
    · left; exact lt_trans _ _ _ hr1 hq
    · rcases part3 (t.drop (off t i)) p with h1 | h1 | h1
      · left; exact h1
      · right; unfold pre; rw [decide_eq_true_eq]; exact h1
      · unfold pre at hq
        rw [decide_eq_true_eq] at hq
        have := lt_behind _ _ _ hq h1.1 h1.2
        rw [lt_asymm _ _ this] at hr1; cases hr1
theorem rows_le : ahead t p + begun t p ≤ t.length + 1 := by
  rw [← ahead_rows, ← begun_rows, ← cnt_or (fun r => Op.bytesLess (t.drop (off t r)) p) (fun r => pre t p (off t r)) (fun r => Op.bytesLess (t.drop (off t r)) p || pre t p (off t r)) (fun _ => rfl) (fun i hi => ?_)]
  · exact cnt_le _ _
  · unfold pre
    rw [decide_eq_false_iff_not]
    intro h2
    rw [lt_pre _ _ h2] at hi; cases hi
end

end Go.Proofs.Ythkndfkkgncjfaa.Fo
