/- Plain lists: what a desk that lets a document go reckons. -/
import Derived.Test.YtpikkedeoebiaaaDocE
namespace Go.Proofs.Ytpikkedeoebiaaa.Do

/-- the bytes of what went, the first k having been looked at -/
def remTo (L : List Chg) (id : Int) : Nat → Nat
  | 0 => 0
  | k + 1 => remTo L id k + (match L[k]? with | none => 0 | some c => if (c.id : Int) = id then c.doc.size else 0)
/-- the weight of what went last -/
def movTo (L : List Chg) (id mv : Int) : Nat → Int
  | 0 => mv
  | k + 1 => match L[k]? with | none => movTo L id mv k | some c => if (c.id : Int) = id then (c.doc.size : Int) + 1 else movTo L id mv k
def anyTo (L : List Chg) (id : Int) : Nat → Bool
  | 0 => false
  | k + 1 => anyTo L id k || (match L[k]? with | none => false | some c => (c.id : Int) == id)
theorem remTo_hit (L : List Chg) (id : Int) (k : Nat) (c : Chg) (h : L[k]? = some c) (he : (c.id : Int) = id) : remTo L id (k + 1) = remTo L id k + c.doc.size := by rw [remTo, h]; simp only; rw [if_pos he]
theorem remTo_miss (L : List Chg) (id : Int) (k : Nat) (c : Chg) (h : L[k]? = some c) (he : ¬ (c.id : Int) = id) : remTo L id (k + 1) = remTo L id k := by rw [remTo, h]; simp only; rw [if_neg he]; rfl
theorem movTo_hit (L : List Chg) (id mv : Int) (k : Nat) (c : Chg) (h : L[k]? = some c) (he : (c.id : Int) = id) : movTo L id mv (k + 1) = (c.doc.size : Int) + 1 := by rw [movTo, h]; simp only; rw [if_pos he]
theorem movTo_miss (L : List Chg) (id mv : Int) (k : Nat) (c : Chg) (h : L[k]? = some c) (he : ¬ (c.id : Int) = id) : movTo L id mv (k + 1) = movTo L id mv k := by rw [movTo, h]; simp only; rw [if_neg he]
theorem anyTo_hit (L : List Chg) (id : Int) (k : Nat) (c : Chg) (h : L[k]? = some c) (he : (c.id : Int) = id) : anyTo L id (k + 1) = true := by rw [anyTo, h]; simp [he]
theorem anyTo_miss (L : List Chg) (id : Int) (k : Nat) (c : Chg) (h : L[k]? = some c) (he : ¬ (c.id : Int) = id) : anyTo L id (k + 1) = anyTo L id k := by rw [anyTo, h]; simp [he]
theorem sizes_append (L : List Chg) (c : Chg) : size (L ++ [c]) = size L + c.doc.size := by
  have h : ∀ k, k ≤ L.length → sizeTo (L ++ [c]) k = sizeTo L k := by
    intro k
    induction k with
    | zero => intro _; rfl
    | succ k ih =>
      intro hk
      rw [sizeTo, sizeTo, ih (by omega), List.getElem?_append_left (by omega)]
  unfold size
  rw [List.length_append, List.length_singleton, sizeTo_succ _ _ c (by simp), h _ (Nat.le_refl _)]
theorem size_without (L : List Chg) (id : Int) : ∀ k, k ≤ L.length → size (without L id k) + remTo L id k = sizeTo L k
  | 0, _ => rfl
  | k + 1, hk => by
    have hc : L[k]? = some L[k] := List.getElem?_eq_getElem (by omega)
    have ih := size_without L id k (by omega)
    rw [sizeTo_succ L k _ hc]
    by_cases he : (L[k].id : Int) = id
    · rw [without_miss L id k _ hc he, remTo_hit L id k _ hc he]; omega
    · rw [without_hit L id k _ hc he, remTo_miss L id k _ hc he, sizes_append]; omega
theorem rem_le (L : List Chg) (id : Int) : ∀ k, k ≤ L.length → remTo L id k ≤ sizeTo L k := fun k hk => by have := size_without L id k hk; omega
theorem sizeTo_mono (L : List Chg) : ∀ k j, k ≤ j → sizeTo L k ≤ sizeTo L j := fun k j h => by
  obtain ⟨d, rfl⟩ := Nat.le.dest h
  induction d with
  | zero => exact Nat.le_refl _
  | succ d ih =>
    have := ih (by omega)
    rw [← Nat.add_assoc, sizeTo]; omega
theorem any_none (L : List Chg) (id : Int) (h : at? L id = none) : ∀ k, anyTo L id k = false
  | 0 => rfl
  | k + 1 => by
    have ih := any_none L id h k
    unfold at? at h
    rw [List.findIdx?_eq_none_iff] at h
    rw [anyTo, ih]
    cases hc : L[k]? with
    | none => rfl
    | some c => have := h c (List.mem_of_getElem? hc); simpa using this
theorem any_some (L : List Chg) (id : Int) (j : Nat) (c : Chg) (hc : L[j]? = some c) (he : (c.id : Int) = id) : ∀ k, j < k → anyTo L id k = true
  | 0, h => by omega
  | k + 1, h => by
    rw [anyTo]
    rcases Nat.lt_or_ge j k with h1 | h1
    · rw [any_some L id j c hc he k h1]; rfl
    · have : j = k := by omega
      subst this
      rw [hc]; simp [he]

end Go.Proofs.Ytpikkedeoebiaaa.Do
