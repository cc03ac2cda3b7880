/- Plain lists: occurrences. -/
import Derived.Test.YtpikkedeoebiaaaDocB
import Derived.Test.YtpikkedeoebiaaaMathE
namespace Go.Proofs.Ytpikkedeoebiaaa.Do

/-- an occurrence -/
structure Oc where
  id : Nat
  at' : Nat

/-- of one document, its first k offsets having been looked at -/
def hitsIn (c : Chg) (p : List UInt8) : Nat → List Oc
  | 0 => []
  | k + 1 => hitsIn c p k ++ (if Fo.pre c.doc.data.toList p k then [⟨c.id, k⟩] else [])
/-- of the first j documents -/
def hitsTo (cs : List Chg) (p : List UInt8) : Nat → List Oc
  | 0 => []
  | j + 1 => hitsTo cs p j ++ (match cs[j]? with | none => [] | some c => hitsIn c p c.doc.size)
def hits (cs : List Chg) (p : List UInt8) : List Oc := hitsTo cs p cs.length

theorem hitsIn_hit (c : Chg) (p : List UInt8) (k : Nat) (h : Fo.pre c.doc.data.toList p k = true) : hitsIn c p (k + 1) = hitsIn c p k ++ [⟨c.id, k⟩] := by rw [hitsIn, if_pos h]
theorem hitsIn_miss (c : Chg) (p : List UInt8) (k : Nat) (h : Fo.pre c.doc.data.toList p k = false) : hitsIn c p (k + 1) = hitsIn c p k := by rw [hitsIn, h]; simp
theorem hitsTo_succ (cs : List Chg) (p : List UInt8) (j : Nat) (c : Chg) (h : cs[j]? = some c) : hitsTo cs p (j + 1) = hitsTo cs p j ++ hitsIn c p c.doc.size := by rw [hitsTo, h]
theorem hitsIn_len (c : Chg) (p : List UInt8) : ∀ k, (hitsIn c p k).length ≤ k
  | 0 => Nat.le_refl _
  | k + 1 => by
      have := hitsIn_len c p k
      rw [hitsIn, List.length_append]
      split <;> simp <;> omega
theorem hitsTo_len (cs : List Chg) (p : List UInt8) (h : ∀ c ∈ cs, c.doc.size ≤ 40) : ∀ j, (hitsTo cs p j).length ≤ 40 * j
  | 0 => Nat.le_refl _
  | j + 1 => by
      have := hitsTo_len cs p h j
      rw [hitsTo, List.length_append]
      cases hc : cs[j]? with
      | none => simp; omega
      | some c =>
        have h1 := hitsIn_len c p c.doc.size
        have h2 := h c (List.mem_of_getElem? hc)
        simp only
        omega

/-- does an occurrence stand ahead of a place? -/
def before (o : Oc) (id at' : Int) : Bool := decide ((o.id : Int) < id) || ((o.id : Int) == id && decide ((o.at' : Int) < at'))
/-- a page, and whether there are more: the first k having been looked at -/
def pageTo (l : List Oc) (id at' : Int) (m : Nat) : Nat → List Oc × Bool
  | 0 => ([], false)
  | k + 1 => match l[k]? with
    | none => pageTo l id at' m k
    | some o => if before o id at' then pageTo l id at' m k else if (pageTo l id at' m k).1.length = m then ((pageTo l id at' m k).1, true) else ((pageTo l id at' m k).1 ++ [o], (pageTo l id at' m k).2)
def page (l : List Oc) (id at' : Int) (m : Nat) : List Oc × Bool := pageTo l id at' m l.length
theorem pageTo_skip (l : List Oc) (id at' : Int) (m k : Nat) (o : Oc) (h : l[k]? = some o) (hb : before o id at' = true) : pageTo l id at' m (k + 1) = pageTo l id at' m k := by rw [pageTo, h]; simp only; rw [if_pos hb]
theorem pageTo_more (l : List Oc) (id at' : Int) (m k : Nat) (o : Oc) (h : l[k]? = some o) (hb : before o id at' = false) (hm : (pageTo l id at' m k).1.length = m) : pageTo l id at' m (k + 1) = ((pageTo l id at' m k).1, true) := by rw [pageTo, h]; simp only; rw [if_neg (by rw [hb]; simp), if_pos hm]
theorem pageTo_put (l : List Oc) (id at' : Int) (m k : Nat) (o : Oc) (h : l[k]? = some o) (hb : before o id at' = false) (hm : ¬ (pageTo l id at' m k).1.length = m) : pageTo l id at' m (k + 1) = ((pageTo l id at' m k).1 ++ [o], (pageTo l id at' m k).2) := by rw [pageTo, h]; simp only; rw [if_neg (by rw [hb]; simp), if_neg hm]
theorem pageTo_len (l : List Oc) (id at' : Int) (m : Nat) : ∀ k, (pageTo l id at' m k).1.length ≤ m
  | 0 => Nat.zero_le _
  | k + 1 => by
      have ih := pageTo_len l id at' m k
      rw [pageTo]
      cases l[k]? with
      | none => exact ih
      | some o =>
        simp only
        split
        · exact ih
        · split
          · exact ih
          · simp; omega

end Go.Proofs.Ytpikkedeoebiaaa.Do
