/- Plain lists and numbers: the order of suffixes, counted. Nothing of the program. -/
import GoSem.Op.String
namespace Go.Proofs.Ythkndfkkgncjfaa.Fo

/-- how many of the first n numbers meet p -/
def cnt (p : Nat → Bool) : Nat → Nat
  | 0 => 0
  | k + 1 => cnt p k + (if p k then 1 else 0)

theorem cnt_le (p : Nat → Bool) : ∀ n, cnt p n ≤ n
  | 0 => Nat.le_refl _
  | n + 1 => by have := cnt_le p n; unfold cnt; split <;> omega

theorem cnt_mono (p : Nat → Bool) (n : Nat) : ∀ d, cnt p n ≤ cnt p (n + d)
  | 0 => Nat.le_refl _
  | d + 1 => by have := cnt_mono p n d; show _ ≤ cnt p (n + d) + _; omega

theorem cnt_lt (p : Nat → Bool) : ∀ n i, i < n → p i = false → cnt p n < n
  | n + 1, i, h, hp => by
      have hl := cnt_le p n
      unfold cnt
      by_cases e : i = n
      · subst e; rw [hp]; simp; omega
      · have := cnt_lt p n i (by omega) hp
        split <;> omega

theorem cnt_congr (p q : Nat → Bool) : ∀ n, (∀ i, i < n → p i = q i) → cnt p n = cnt q n
  | 0, _ => rfl
  | n + 1, h => by
      unfold cnt
      rw [cnt_congr p q n (fun i hi => h i (by omega)), h n (by omega)]

theorem cnt_imp (p q : Nat → Bool) : ∀ n, (∀ i, i < n → p i = true → q i = true) → cnt p n ≤ cnt q n
  | 0, _ => Nat.le_refl _
  | n + 1, h => by
      have := cnt_imp p q n (fun i hi => h i (by omega))
      have hn := h n (by omega)
      unfold cnt
      cases hp : p n <;> cases hq : q n <;> simp_all <;> omega

theorem cnt_imp_lt (p q : Nat → Bool) : ∀ n j, j < n → (∀ i, i < n → p i = true → q i = true) → p j = false → q j = true → cnt p n < cnt q n
  | n + 1, j, hj, h, hp, hq => by
      unfold cnt
      by_cases e : j = n
      · subst e
        have := cnt_imp p q j (fun i hi => h i (by omega))
        rw [hp, hq]; simp; omega
      · have := cnt_imp_lt p q n j (by omega) (fun i hi => h i (by omega)) hp hq
        have hn := h n (by omega)
        cases hp : p n <;> cases hq : q n <;> simp_all <;> omega

theorem lt_irrefl : ∀ a : List UInt8, Op.bytesLess a a = false
  | [] => rfl
  | a :: x => by simp [Op.bytesLess, lt_irrefl x]

/-- suffixes of t that go ahead of b, among the first k offsets -/
def aheadTo (t b : List UInt8) (k : Nat) : Nat := cnt (fun i => Op.bytesLess (t.drop i) b) k
def ahead (t b : List UInt8) : Nat := aheadTo t b (t.length + 1)
def rank (t : List UInt8) (i : Nat) : Nat := ahead t (t.drop i)

theorem ahead_le (t b : List UInt8) : ahead t b ≤ t.length + 1 := cnt_le _ _
theorem rank_lt (t : List UInt8) (i : Nat) (h : i ≤ t.length) : rank t i < t.length + 1 :=
  cnt_lt _ _ i (by omega) (lt_irrefl _)

/-- the order, as it is written, offset by offset -/
def ordTo (t : List UInt8) : Nat → List Nat
  | 0 => List.replicate (t.length + 1) 0
  | k + 1 => (ordTo t k).set (rank t k) k
def ord (t : List UInt8) : List Nat := ordTo t (t.length + 1)

theorem ordTo_length (t : List UInt8) : ∀ k, (ordTo t k).length = t.length + 1
  | 0 => by simp [ordTo]
  | k + 1 => by simp [ordTo, ordTo_length t k]
theorem ord_length (t : List UInt8) : (ord t).length = t.length + 1 := ordTo_length t _

theorem ordTo_lt (t : List UInt8) : ∀ k, ∀ x ∈ ordTo t k, x < k ∨ x = 0
  | 0 => by intro x hx; simp [ordTo] at hx; exact .inr hx
  | k + 1 => by
      intro x hx
      rw [ordTo] at hx
      rcases List.mem_or_eq_of_mem_set hx with h | h
      · rcases ordTo_lt t k x h with h | h <;> omega
      · omega
theorem ord_le (t : List UInt8) : ∀ x ∈ ord t, x ≤ t.length := by
  intro x hx
  rcases ordTo_lt t _ x hx with h | h <;> omega

/-- the turn, row by row, of an order l -/
def turnTo (t : List UInt8) (l : List Nat) : Nat → List UInt8 × Nat
  | 0 => ([], 0)
  | k + 1 => if l.getD k 0 = 0 then ((turnTo t l k).1, k) else ((turnTo t l k).1 ++ [t.getD (l.getD k 0 - 1) 0], (turnTo t l k).2)
def turn (t : List UInt8) : List UInt8 × Nat := turnTo t (ord t) (t.length + 1)

theorem turnTo_len (t : List UInt8) (l : List Nat) : ∀ k, (turnTo t l k).1.length ≤ k
  | 0 => Nat.le_refl _
  | k + 1 => by have := turnTo_len t l k; unfold turnTo; split <;> simp <;> omega
theorem turnTo_row (t : List UInt8) (l : List Nat) : ∀ k, (turnTo t l k).2 ≤ k
  | 0 => Nat.le_refl _
  | k + 1 => by have := turnTo_row t l k; unfold turnTo; split <;> simp <;> omega

end Go.Proofs.Ythkndfkkgncjfaa.Fo
