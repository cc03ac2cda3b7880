/- Plain lists: occurrences stand in their order, and a page goes on where the last ended. -/
import Derived.Test.YtpikkedeoebiaaaDocF
namespace Go.Proofs.Ytpikkedeoebiaaa.Do

def olt (o q : Oc) : Prop := o.id < q.id ∨ (o.id = q.id ∧ o.at' < q.at')

theorem hitsIn_mem (c : Chg) (p : List UInt8) : ∀ k, ∀ o ∈ hitsIn c p k, o.id = c.id ∧ o.at' < k
  | 0, o, h => by simp [hitsIn] at h
  | k + 1, o, h => by
    rw [hitsIn, List.mem_append] at h
    rcases h with h | h
    · have := hitsIn_mem c p k o h; exact ⟨this.1, by omega⟩
    · split at h
      · simp at h; subst h; exact ⟨rfl, Nat.lt_succ_self _⟩
      · simp at h
theorem hitsIn_rise (c : Chg) (p : List UInt8) : ∀ k, (hitsIn c p k).Pairwise olt
  | 0 => List.Pairwise.nil
  | k + 1 => by
    rw [hitsIn, List.pairwise_append]
    refine ⟨hitsIn_rise c p k, ?_, ?_⟩
    · split
      · exact List.pairwise_singleton _ _
      · exact List.Pairwise.nil
    · intro o ho q hq
      split at hq
      · simp at hq; subst hq
        have := hitsIn_mem c p k o ho
        exact .inr ⟨this.1, this.2⟩
      · simp at hq
theorem hitsTo_mem (L : List Chg) (p : List UInt8) : ∀ j, ∀ o ∈ hitsTo L p j, ∃ i c, i < j ∧ L[i]? = some c ∧ o.id = c.id ∧ o.at' < c.doc.size
  | 0, o, h => by simp [hitsTo] at h
  | j + 1, o, h => by
    rw [hitsTo, List.mem_append] at h
    rcases h with h | h
    · obtain ⟨i, c, h1, h2, h3⟩ := hitsTo_mem L p j o h
      exact ⟨i, c, by omega, h2, h3⟩
    · cases hc : L[j]? with
      | none => rw [hc] at h; simp at h
      | some c =>
        rw [hc] at h
        have := hitsIn_mem c p c.doc.size o h
        exact ⟨j, c, by omega, hc, this.1, this.2⟩
theorem rise_get (L : List Chg) (h : L.Pairwise fun c d => c.id < d.id) (i j : Nat) (c d : Chg) (hi : L[i]? = some c) (hj : L[j]? = some d) (hij : i < j) : c.id < d.id := by
  have hjl : j < L.length := by
    rcases Nat.lt_or_ge j L.length with h | h
    · exact h
    · rw [List.getElem?_eq_none h] at hj; cases hj
  rw [List.getElem?_eq_getElem (by omega)] at hi
  rw [List.getElem?_eq_getElem hjl] at hj
  simp only [Option.some.injEq] at hi hj
  rw [← hi, ← hj]
  exact List.pairwise_iff_getElem.1 h i j (by omega) hjl hij
theorem hitsTo_rise (L : List Chg) (p : List UInt8) (h : L.Pairwise fun c d => c.id < d.id) : ∀ j, (hitsTo L p j).Pairwise olt
  | 0 => List.Pairwise.nil
  | j + 1 => by
    rw [hitsTo, List.pairwise_append]
    refine ⟨hitsTo_rise L p h j, ?_, ?_⟩
    · split
      · exact List.Pairwise.nil
      · exact hitsIn_rise _ _ _
    · intro o ho q hq
      cases hc : L[j]? with
      | none => rw [hc] at hq; simp at hq
      | some c =>
        rw [hc] at hq
        obtain ⟨i, d, hi, hd, e1, _⟩ := hitsTo_mem L p j o ho
        have := hitsIn_mem c p c.doc.size q hq
        left
        rw [e1, this.1]
        exact rise_get L h i j d c hd hc hi
theorem hits_rise (L : List Chg) (p : List UInt8) (h : L.Pairwise fun c d => c.id < d.id) : (hits L p).Pairwise olt := hitsTo_rise L p h _
theorem hitsTo_size (L : List Chg) (p : List UInt8) : ∀ j, (hitsTo L p j).length ≤ sizeTo L j
  | 0 => Nat.le_refl _
  | j + 1 => by
    have ih := hitsTo_size L p j
    rw [hitsTo, List.length_append, sizeTo]
    cases hc : L[j]? with
    | none => simp; omega
    | some c => have := hitsIn_len c p c.doc.size; simp only; omega
theorem hits_size (L : List Chg) (p : List UInt8) : (hits L p).length ≤ size L := hitsTo_size L p _

theorem since_zero (l : List Oc) : since l 0 0 = l := by
  unfold since
  rw [List.filter_eq_self]
  intro o _
  have h1 : ¬ (o.id : Int) < 0 := by omega
  have h2 : ¬ (o.at' : Int) < 0 := by omega
  simp [before, h1, h2]
theorem since_next (l : List Oc) (h : l.Pairwise olt) (j : Nat) (o : Oc) (ho : l[j]? = some o) : since l (o.id : Int) ((o.at' : Int) + 1) = l.drop (j + 1) := by
  have hj : j < l.length := by
    rcases Nat.lt_or_ge j l.length with h | h
    · exact h
    · rw [List.getElem?_eq_none h] at ho; cases ho
  have ho' : l[j] = o := by rw [List.getElem?_eq_getElem hj] at ho; simpa using ho
  have hp := List.pairwise_iff_getElem.1 h
  conv => lhs; rw [← List.take_append_drop (j + 1) l]
  rw [since_append]
  have e1 : since (l.take (j + 1)) (o.id : Int) ((o.at' : Int) + 1) = [] := by
    unfold since
    rw [List.filter_eq_nil_iff]
    intro q hq
    obtain ⟨i, hi, rfl⟩ := List.mem_iff_getElem.1 hq
    rw [List.length_take] at hi
    rw [List.getElem_take]
    have hb : before l[i] (o.id : Int) ((o.at' : Int) + 1) = true := by
      unfold before
      rcases Nat.lt_or_ge i j with h1 | h1
      · have := hp i j (by omega) hj h1
        rw [ho'] at this
        rcases this with h2 | ⟨h2, h3⟩
        · have : (l[i].id : Int) < (o.id : Int) := by omega
          simp [this]
        · have e : (l[i].id : Int) = (o.id : Int) := by omega
          have e2 : (l[i].at' : Int) < (o.at' : Int) + 1 := by omega
          simp [e, e2]
      · have : i = j := by omega
        subst this
        rw [ho']
        have e2 : (o.at' : Int) < (o.at' : Int) + 1 := by omega
        simp [e2]
    simp [hb]
  have e2 : since (l.drop (j + 1)) (o.id : Int) ((o.at' : Int) + 1) = l.drop (j + 1) := by
    unfold since
    rw [List.filter_eq_self]
    intro q hq
    obtain ⟨i, hi, rfl⟩ := List.mem_iff_getElem.1 hq
    rw [List.length_drop] at hi
    rw [List.getElem_drop]
    have := hp j (j + 1 + i) hj (by omega) (by omega)
    rw [ho'] at this
    unfold before
    rcases this with h2 | ⟨h2, h3⟩
    · have a1 : ¬ (l[j + 1 + i].id : Int) < (o.id : Int) := by omega
      have a2 : ¬ (l[j + 1 + i].id : Int) = (o.id : Int) := by omega
      simp [a1, a2]
    · have a1 : ¬ (l[j + 1 + i].id : Int) < (o.id : Int) := by omega
      have a2 : ¬ (l[j + 1 + i].at' : Int) < (o.at' : Int) + 1 := by omega
      simp [a1, a2]
  rw [e1, e2]; rfl
/-- one page, and where the next begins -/
theorem page_at (l : List Oc) (i t : Int) (m j : Nat) (hs : since l i t = l.drop j) : page l i t m = ((l.drop j).take m, decide (j + m < l.length)) := by
  rw [page_eq, hs, List.length_drop]
  congr 1
  rw [decide_eq_decide]; omega

end Go.Proofs.Ytpikkedeoebiaaa.Do
