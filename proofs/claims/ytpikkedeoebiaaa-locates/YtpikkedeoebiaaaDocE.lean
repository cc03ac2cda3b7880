/- Plain lists: a page is a part of those that aren't ahead of a place; what one walk over the documents tells. -/
import Derived.Test.YtpikkedeoebiaaaDocC
namespace Go.Proofs.Ytpikkedeoebiaaa.Do

/-- those that aren't ahead of a place -/
def since (l : List Oc) (i t : Int) : List Oc := l.filter fun o => !before o i t
theorem since_append (a b : List Oc) (i t : Int) : since (a ++ b) i t = since a i t ++ since b i t := by simp [since]

theorem pageTo_eq (l : List Oc) (i t : Int) (m : Nat) : ∀ k, k ≤ l.length → pageTo l i t m k = ((since (l.take k) i t).take m, decide (m < (since (l.take k) i t).length))
  | 0, _ => by simp [pageTo, since]
  | k + 1, hk => by
    have ih := pageTo_eq l i t m k (by omega)
    have ho : l[k]? = some l[k] := List.getElem?_eq_getElem (by omega)
    rw [List.take_succ_eq_append_getElem (by omega), since_append]
    cases hb : before l[k] i t with
    | true =>
      rw [pageTo_skip l i t m k _ ho hb, ih]
      have : since [l[k]] i t = [] := by simp [since, hb]
      rw [this, List.append_nil]
    | false =>
      have e : since [l[k]] i t = [l[k]] := by simp [since, hb]
      rw [e]
      generalize since (l.take k) i t = F at *
      by_cases hm : (pageTo l i t m k).1.length = m
      · rw [pageTo_more l i t m k _ ho hb hm, ih]
        rw [ih] at hm
        simp only [List.length_take] at hm
        have hmF : m ≤ F.length := by omega
        rw [List.take_append_of_le_length hmF]
        simp; omega
      · rw [pageTo_put l i t m k _ ho hb hm, ih]
        rw [ih] at hm
        simp only [List.length_take] at hm
        have hmF : F.length < m := by omega
        rw [List.take_of_length_le (by omega), List.take_of_length_le (by simp; omega)]
        simp; omega
theorem page_eq (l : List Oc) (i t : Int) (m : Nat) : page l i t m = ((since l i t).take m, decide (m < (since l i t).length)) := by
  unfold page
  rw [pageTo_eq l i t m l.length (Nat.le_refl _), List.take_length]

/-- the least offset that isn't ahead of a place -/
def fst (c : Chg) (i t : Int) : Nat := if (c.id : Int) < i then c.doc.size + 1 else if (c.id : Int) = i ∧ 0 < t then t.toNat else 0

theorem pre_big (c : Chg) (p : List UInt8) (hp : p ≠ []) (k : Nat) (hk : c.doc.size ≤ k) : Fo.pre c.doc.data.toList p k = false := by
  have hl : c.doc.data.toList.length = c.doc.size := Array.length_toList
  have hp0 : 0 < p.length := by cases p with | nil => exact absurd rfl hp | cons => simp
  rcases Fo.pre_short c.doc.data.toList p k (by rw [hl]; omega) with h | h
  · exact h
  · exact absurd h hp
theorem hitsIn_big (c : Chg) (p : List UInt8) (hp : p ≠ []) : ∀ d, hitsIn c p (c.doc.size + d) = hitsIn c p c.doc.size
  | 0 => rfl
  | d + 1 => by
    rw [← Nat.add_assoc, hitsIn_miss c p _ (pre_big c p hp _ (by omega))]
    exact hitsIn_big c p hp d
theorem hitsIn_over (c : Chg) (p : List UInt8) (hp : p ≠ []) (k : Nat) (hk : c.doc.size ≤ k) : hitsIn c p k = hitsIn c p c.doc.size := by
  obtain ⟨d, rfl⟩ := Nat.le.dest hk
  exact hitsIn_big c p hp d

theorem since_fst (c : Chg) (p : List UInt8) (i t : Int) : ∀ k, k ≤ fst c i t → since (hitsIn c p k) i t = []
  | 0, _ => rfl
  | k + 1, hk => by
    have ih := since_fst c p i t k (by omega)
    cases h : Fo.pre c.doc.data.toList p k with
    | false => rw [hitsIn_miss c p k h]; exact ih
    | true =>
      rw [hitsIn_hit c p k h, since_append, ih]
      have hb : before ⟨c.id, k⟩ i t = true := by
        unfold fst at hk
        unfold before
        by_cases h1 : (c.id : Int) < i
        · simp [h1]
        · rw [if_neg h1] at hk
          by_cases h2 : (c.id : Int) = i ∧ 0 < t
          · rw [if_pos h2] at hk
            have : (k : Int) < t := by omega
            simp [h2.1, this]
          · rw [if_neg h2] at hk; omega
      simp [since, hb]
theorem not_before (c : Chg) (i t : Int) (k : Nat) (h1 : fst c i t ≤ k) (h2 : k ≤ c.doc.size) : before ⟨c.id, k⟩ i t = false := by
  unfold fst at h1
  unfold before
  by_cases e1 : (c.id : Int) < i
  · rw [if_pos e1] at h1; omega
  · rw [if_neg e1] at h1
    by_cases e2 : (c.id : Int) = i
    · by_cases e3 : 0 < t
      · rw [if_pos ⟨e2, e3⟩] at h1
        have : ¬ (k : Int) < t := by omega
        simp [e1, this]
      · have : ¬ (k : Int) < t := by omega
        simp [e1, this]
    · simp [e1, e2]

/-- what one walk keeps: at most n, those of the documents ahead and of this one's first k offsets -/
def some' (A : List Oc) (c : Chg) (p : List UInt8) (i t : Int) (n k : Nat) : List Oc := (since (A ++ hitsIn c p k) i t).take n
theorem some_start (A : List Oc) (c : Chg) (p : List UInt8) (i t : Int) (n : Nat) : some' A c p i t n (fst c i t) = (since A i t).take n := by
  unfold some'
  rw [since_append, since_fst c p i t _ (Nat.le_refl _), List.append_nil]
theorem some_miss (A : List Oc) (c : Chg) (p : List UInt8) (i t : Int) (n k : Nat) (h : Fo.pre c.doc.data.toList p k = false) : some' A c p i t n (k + 1) = some' A c p i t n k := by
  unfold some'; rw [hitsIn_miss c p k h]
theorem some_hit (A : List Oc) (c : Chg) (p : List UInt8) (i t : Int) (n k : Nat) (h : Fo.pre c.doc.data.toList p k = true) (h1 : fst c i t ≤ k) (h2 : k ≤ c.doc.size) (hn : (some' A c p i t n k).length < n) : some' A c p i t n (k + 1) = some' A c p i t n k ++ [⟨c.id, k⟩] := by
  unfold some' at *
  rw [hitsIn_hit c p k h, ← List.append_assoc, since_append (A ++ hitsIn c p k)]
  have hb := not_before c i t k h1 h2
  have e : since [(⟨c.id, k⟩ : Oc)] i t = [⟨c.id, k⟩] := by simp [since, hb]
  rw [e]
  rw [List.length_take] at hn
  rw [List.take_of_length_le (l := since (A ++ hitsIn c p k) i t) (by omega), List.take_of_length_le (by simp; omega)]
theorem some_over (A : List Oc) (c : Chg) (p : List UInt8) (hp : p ≠ []) (i t : Int) (n k : Nat) (hk : c.doc.size ≤ k) : some' A c p i t n k = (since (A ++ hitsIn c p c.doc.size) i t).take n := by
  unfold some'; rw [hitsIn_over c p hp k hk]
theorem hitsIn_prefix (c : Chg) (p : List UInt8) (k : Nat) : ∀ d, ∃ r, hitsIn c p (k + d) = hitsIn c p k ++ r
  | 0 => ⟨[], by simp⟩
  | d + 1 => by
    obtain ⟨r, hr⟩ := hitsIn_prefix c p k d
    rw [← Nat.add_assoc, hitsIn, hr, List.append_assoc]
    exact ⟨_, rfl⟩
theorem some_full (A : List Oc) (c : Chg) (p : List UInt8) (hp : p ≠ []) (i t : Int) (n k : Nat) (hn : n ≤ (some' A c p i t n k).length) : some' A c p i t n k = (since (A ++ hitsIn c p c.doc.size) i t).take n := by
  rcases Nat.le_total c.doc.size k with h | h
  · exact some_over A c p hp i t n k h
  · obtain ⟨d, hd⟩ := Nat.le.dest h
    obtain ⟨r, hr⟩ := hitsIn_prefix c p k d
    unfold some' at *
    rw [← hd, hr, ← List.append_assoc, since_append (A ++ hitsIn c p k)]
    rw [List.length_take] at hn
    rw [List.take_append_of_le_length (by omega)]
theorem some_len (A : List Oc) (c : Chg) (p : List UInt8) (i t : Int) (n k : Nat) : (some' A c p i t n k).length ≤ n := by unfold some'; rw [List.length_take]; omega
/-- the walk over the first j documents -/
def firsts (cs : List Chg) (p : List UInt8) (i t : Int) (n j : Nat) : List Oc := (since (hitsTo cs p j) i t).take n
theorem firsts_len (cs : List Chg) (p : List UInt8) (i t : Int) (n j : Nat) : (firsts cs p i t n j).length ≤ n := by unfold firsts; rw [List.length_take]; omega
theorem firsts_zero (cs : List Chg) (p : List UInt8) (i t : Int) (n : Nat) : firsts cs p i t n 0 = [] := by simp [firsts, hitsTo, since]
theorem firsts_succ (cs : List Chg) (p : List UInt8) (i t : Int) (n j : Nat) (c : Chg) (hc : cs[j]? = some c) : firsts cs p i t n (j + 1) = (since (hitsTo cs p j ++ hitsIn c p c.doc.size) i t).take n := by
  unfold firsts; rw [hitsTo_succ cs p j c hc]
theorem firsts_page (cs : List Chg) (p : List UInt8) (i t : Int) (m : Nat) : page (hits cs p) i t m = ((firsts cs p i t (m + 1) cs.length).take m, decide (m < (firsts cs p i t (m + 1) cs.length).length)) := by
  rw [page_eq]
  unfold firsts hits
  rw [List.take_take, Nat.min_eq_left (by omega), List.length_take]
  congr 1
  rw [decide_eq_decide]; omega

/-! counting -/
theorem hitsIn_cnt (c : Chg) (p : List UInt8) : ∀ k, (hitsIn c p k).length = Fo.cnt (Fo.pre c.doc.data.toList p) k
  | 0 => rfl
  | k + 1 => by
    rw [hitsIn, List.length_append, hitsIn_cnt c p k]
    show _ = Fo.cnt (Fo.pre c.doc.data.toList p) k + (if Fo.pre c.doc.data.toList p k then 1 else 0)
    split <;> rfl
theorem hitsIn_begun (c : Chg) (p : List UInt8) (hp : p ≠ []) : (hitsIn c p c.doc.size).length = Fo.begun c.doc.data.toList p := by
  unfold Fo.begun
  have hl : c.doc.data.toList.length = c.doc.size := Array.length_toList
  rw [hl, ← hitsIn_cnt, hitsIn_over c p hp (c.doc.size + 1) (by omega)]

/-! taking away -/
def without (cs : List Chg) (id : Int) (k : Nat) : List Chg := (cs.take k).filter fun d => !((d.id : Int) == id)
theorem without_len (cs : List Chg) (id : Int) (k : Nat) : (without cs id k).length ≤ k := by
  unfold without
  exact Nat.le_trans (List.length_filter_le _ _) (by rw [List.length_take]; omega)
theorem without_hit (cs : List Chg) (id : Int) (k : Nat) (c : Chg) (hc : cs[k]? = some c) (h : ¬ (c.id : Int) = id) : without cs id (k + 1) = without cs id k ++ [c] := by
  unfold without
  have hk : k < cs.length := by
    rcases Nat.lt_or_ge k cs.length with h | h
    · exact h
    · rw [List.getElem?_eq_none h] at hc; cases hc
  rw [List.take_succ_eq_append_getElem hk, List.filter_append]
  rw [List.getElem?_eq_getElem hk] at hc
  simp only [Option.some.injEq] at hc
  rw [hc]
  simp [h]
theorem without_miss (cs : List Chg) (id : Int) (k : Nat) (c : Chg) (hc : cs[k]? = some c) (h : (c.id : Int) = id) : without cs id (k + 1) = without cs id k := by
  unfold without
  have hk : k < cs.length := by
    rcases Nat.lt_or_ge k cs.length with h | h
    · exact h
    · rw [List.getElem?_eq_none h] at hc; cases hc
  rw [List.take_succ_eq_append_getElem hk, List.filter_append]
  rw [List.getElem?_eq_getElem hk] at hc
  simp only [Option.some.injEq] at hc
  rw [hc]
  simp [h]
theorem without_all (cs : List Chg) (id : Nat) : without cs (id : Int) cs.length = cs.filter fun d => !(id == d.id) := by
  unfold without
  rw [List.take_length]
  refine List.filter_congr fun d _ => ?_
  congr 1
  by_cases h : d.id = id
  · have h1 : (d.id : Int) = (id : Int) := by omega
    rw [h1, h]; simp
  · have h1 : ¬ (d.id : Int) = (id : Int) := by omega
    have h2 : ¬ id = d.id := by omega
    rw [beq_eq_false_iff_ne.2 h1, beq_eq_false_iff_ne.2 h2]

end Go.Proofs.Ytpikkedeoebiaaa.Do
