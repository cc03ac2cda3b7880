/- Plain lists: sizes, places, lists of ids. -/
import Derived.Test.YtpikkedeoebiaaaDocA
namespace Go.Proofs.Ytpikkedeoebiaaa.Do

def sizeTo (cs : List Chg) : Nat → Nat
  | 0 => 0
  | k + 1 => sizeTo cs k + (match cs[k]? with | none => 0 | some c => c.doc.size)
def size (cs : List Chg) : Nat := sizeTo cs cs.length
theorem sizeTo_le (cs : List Chg) (h : ∀ c ∈ cs, c.doc.size ≤ 40) : ∀ k, sizeTo cs k ≤ 40 * k
  | 0 => Nat.le_refl _
  | k + 1 => by
      have ih := sizeTo_le cs h k
      rw [sizeTo]
      cases hc : cs[k]? with
      | none => simp; omega
      | some c => have := h c (List.mem_of_getElem? hc); simp; omega
theorem sizeTo_succ (cs : List Chg) (k : Nat) (c : Chg) (h : cs[k]? = some c) : sizeTo cs (k + 1) = sizeTo cs k + c.doc.size := by rw [sizeTo, h]

/-- where an id stands, the first k having been looked at -/
def at? (cs : List Chg) (id : Int) : Option Nat := cs.findIdx? fun c => (c.id : Int) == id
theorem at_none (cs : List Chg) (id : Int) (h : ∀ (j : Nat) (c : Chg), cs[j]? = some c → ((c.id : Int) == id) = false) : at? cs id = none := by
  unfold at?
  rw [List.findIdx?_eq_none_iff]
  intro c hc
  obtain ⟨j, hj⟩ := List.mem_iff_getElem?.1 hc
  exact h j c hj
theorem at_some (cs : List Chg) (id : Int) (k : Nat) (c : Chg) (hk : cs[k]? = some c) (hc : ((c.id : Int) == id) = true) (h : ∀ (j : Nat) (d : Chg), j < k → cs[j]? = some d → ((d.id : Int) == id) = false) : at? cs id = some k := by
  unfold at?
  have hlt : k < cs.length := by
    rcases Nat.lt_or_ge k cs.length with h | h
    · exact h
    · rw [List.getElem?_eq_none h] at hk; cases hk
  rw [List.findIdx?_eq_some_iff_getElem]
  refine ⟨hlt, ?_, fun j hj => ?_⟩
  · rw [List.getElem?_eq_getElem hlt] at hk
    simp only [Option.some.injEq] at hk
    rw [hk]; exact hc
  · have := h j cs[j] hj (List.getElem?_eq_getElem (by omega))
    simp [this]

/-- the ids above 'after', at most m of them, the first k changes having been looked at -/
def idsTo (cs : List Chg) (after : Int) (m : Nat) : Nat → List Nat
  | 0 => []
  | k + 1 => match cs[k]? with
    | none => idsTo cs after m k
    | some c => if after < (c.id : Int) ∧ (idsTo cs after m k).length < m then idsTo cs after m k ++ [c.id] else idsTo cs after m k
def ids (cs : List Chg) (after : Int) (m : Nat) : List Nat := idsTo cs after m cs.length
theorem idsTo_hit (cs : List Chg) (after : Int) (m k : Nat) (c : Chg) (hc : cs[k]? = some c) (h1 : after < (c.id : Int)) (h2 : (idsTo cs after m k).length < m) : idsTo cs after m (k + 1) = idsTo cs after m k ++ [c.id] := by
  rw [idsTo, hc]; simp only; rw [if_pos ⟨h1, h2⟩]
theorem idsTo_miss (cs : List Chg) (after : Int) (m k : Nat) (c : Chg) (hc : cs[k]? = some c) (h : ¬ (after < (c.id : Int) ∧ (idsTo cs after m k).length < m)) : idsTo cs after m (k + 1) = idsTo cs after m k := by
  rw [idsTo, hc]; simp only; rw [if_neg h]
theorem idsTo_len (cs : List Chg) (after : Int) (m : Nat) : ∀ k, (idsTo cs after m k).length ≤ m
  | 0 => Nat.zero_le _
  | k + 1 => by
      have ih := idsTo_len cs after m k
      rw [idsTo]
      cases cs[k]? with
      | none => exact ih
      | some c =>
        simp only
        split
        · rename_i h; rw [List.length_append]; have := h.2; simp; omega
        · exact ih

end Go.Proofs.Ytpikkedeoebiaaa.Do
