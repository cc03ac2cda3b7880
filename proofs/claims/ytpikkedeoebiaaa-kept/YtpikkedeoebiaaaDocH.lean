/- Plain lists: ids in their order. -/
import Derived.Test.YtpikkedeoebiaaaDocG
namespace Go.Proofs.Ytpikkedeoebiaaa.Do

def above (L : List Chg) (t : Int) : List Chg := L.filter fun c => decide (t < (c.id : Int))
theorem idsTo_eq (L : List Chg) (t : Int) (m : Nat) : ∀ k, k ≤ L.length → idsTo L t m k = ((above (L.take k) t).map (·.id)).take m
  | 0, _ => by simp [idsTo, above]
  | k + 1, hk => by
    have ih := idsTo_eq L t m k (by omega)
    have hc : L[k]? = some L[k] := List.getElem?_eq_getElem (by omega)
    have e : above (L.take (k + 1)) t = above (L.take k) t ++ above [L[k]] t := by
      unfold above; rw [List.take_succ_eq_append_getElem (by omega), List.filter_append]
    rw [e, List.map_append]
    generalize hF : (above (L.take k) t).map (·.id) = F at *
    by_cases h1 : t < (L[k].id : Int)
    · have e2 : above [L[k]] t = [L[k]] := by simp [above, h1]
      rw [e2]
      by_cases h2 : (idsTo L t m k).length < m
      · rw [idsTo_hit L t m k _ hc h1 h2, ih]
        rw [ih, List.length_take] at h2
        rw [List.take_of_length_le (by omega), List.take_of_length_le (by simp; omega)]
        rfl
      · rw [idsTo_miss L t m k _ hc (fun h => h2 h.2), ih]
        rw [ih, List.length_take] at h2
        rw [List.take_append_of_le_length (by omega)]
    · have e2 : above [L[k]] t = [] := by simp [above, h1]
      rw [e2, idsTo_miss L t m k _ hc (fun h => h1 h.1), ih]
      simp
theorem ids_eq (L : List Chg) (t : Int) (m : Nat) : ids L t m = ((above L t).map (·.id)).take m := by
  unfold ids
  rw [idsTo_eq L t m L.length (Nat.le_refl _), List.take_length]
theorem above_start (L : List Chg) : above L (-1) = L := by
  unfold above
  rw [List.filter_eq_self]
  intro c _
  rw [decide_eq_true_eq]; omega
theorem above_next (L : List Chg) (h : L.Pairwise fun c d => c.id < d.id) (j : Nat) (c : Chg) (hc : L[j]? = some c) : above L (c.id : Int) = L.drop (j + 1) := by
  have hj : j < L.length := by
    rcases Nat.lt_or_ge j L.length with h | h
    · exact h
    · rw [List.getElem?_eq_none h] at hc; cases hc
  have hc' : L[j] = c := by rw [List.getElem?_eq_getElem hj] at hc; simpa using hc
  have hp := List.pairwise_iff_getElem.1 h
  unfold above
  conv => lhs; rw [← List.take_append_drop (j + 1) L]
  rw [List.filter_append]
  have e1 : (L.take (j + 1)).filter (fun d => decide ((c.id : Int) < (d.id : Int))) = [] := by
    rw [List.filter_eq_nil_iff]
    intro q hq
    obtain ⟨i, hi, rfl⟩ := List.mem_iff_getElem.1 hq
    rw [List.length_take] at hi
    rw [List.getElem_take, decide_eq_true_eq]
    rcases Nat.lt_or_ge i j with h1 | h1
    · have := hp i j (by omega) hj h1
      rw [hc'] at this; omega
    · have : i = j := by omega
      subst this
      rw [hc']; omega
  have e2 : (L.drop (j + 1)).filter (fun d => decide ((c.id : Int) < (d.id : Int))) = L.drop (j + 1) := by
    rw [List.filter_eq_self]
    intro q hq
    obtain ⟨i, hi, rfl⟩ := List.mem_iff_getElem.1 hq
    rw [List.length_drop] at hi
    rw [List.getElem_drop, decide_eq_true_eq]
    have := hp j (j + 1 + i) hj (by omega) (by omega)
    rw [hc'] at this; omega
  rw [e1, e2]; rfl
theorem at_rise (L : List Chg) (h : L.Pairwise fun c d => c.id < d.id) (i : Nat) (c : Chg) (hc : L[i]? = some c) : at? L (c.id : Int) = some i :=
  at_some L _ i c hc (by simp) fun j d hj hd => by
    have := rise_get L h j i d c hd hc hj
    rw [beq_eq_false_iff_ne]; omega
theorem at_next (L : List Chg) (N : Nat) (h : ∀ c ∈ L, c.id < N) : at? L (N : Int) = none :=
  at_none L _ fun j c hc => by
    have := h c (List.mem_of_getElem? hc)
    rw [beq_eq_false_iff_ne]; omega

end Go.Proofs.Ytpikkedeoebiaaa.Do
