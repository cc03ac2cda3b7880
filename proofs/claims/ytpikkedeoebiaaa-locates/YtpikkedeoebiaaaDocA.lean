/- Plain lists: changes, and what is there. -/
import GoSem.Op.String
namespace Go.Proofs.Ytpikkedeoebiaaa.Do

/-- a change, as the document's own answer keeps it -/
structure Chg where
  ins : Bool
  doc : ByteArray
  id : Nat

/-- is there a Delete of this id among these? -/
def gone (cs : List Chg) (id : Nat) : Bool := cs.any fun c => !c.ins && c.id == id
/-- is the i-th change an Insert of what is still there? -/
def keep (cs : List Chg) (i : Nat) : Bool := match cs[i]? with
  | none => false
  | some c => c.ins && !gone (cs.drop (i + 1)) c.id
/-- what is there, of the first i changes -/
def thereTo (cs : List Chg) : Nat → List Chg
  | 0 => []
  | i + 1 => thereTo cs i ++ (if keep cs i then cs[i]?.toList else [])
def there (cs : List Chg) : List Chg := thereTo cs cs.length

theorem thereTo_len (cs : List Chg) : ∀ i, (thereTo cs i).length ≤ i
  | 0 => Nat.le_refl _
  | i + 1 => by
      have := thereTo_len cs i
      rw [thereTo, List.length_append]
      by_cases h : keep cs i
      · rw [if_pos h]; cases cs[i]? <;> simp <;> omega
      · rw [if_neg h]; simp; omega

/-- the inner loop: whether a change is gone, k changes behind it looked at -/
def goneTo (cs : List Chg) (g0 : Bool) (i id : Nat) (k : Nat) : Bool := g0 || ((cs.drop (i + 1)).take (k - (i + 1))).any fun c => !c.ins && c.id == id
theorem goneTo_start (cs : List Chg) (g0 : Bool) (i id : Nat) : goneTo cs g0 i id (i + 1) = g0 := by simp [goneTo]
theorem goneTo_step (cs : List Chg) (g0 : Bool) (i id k : Nat) (c : Chg) (hk : i + 1 ≤ k) (hc : cs[k]? = some c) : goneTo cs g0 i id (k + 1) = (goneTo cs g0 i id k || (!c.ins && c.id == id)) := by
  unfold goneTo
  have hlt : k < cs.length := by
    rcases Nat.lt_or_ge k cs.length with h | h
    · exact h
    · rw [List.getElem?_eq_none h] at hc; cases hc
  have e : k + 1 - (i + 1) = (k - (i + 1)) + 1 := by omega
  rw [e, List.take_succ_eq_append_getElem (by rw [List.length_drop]; omega), List.any_append, Bool.or_assoc]
  congr 2
  simp only [List.any_cons, List.any_nil, Bool.or_false, List.getElem_drop]
  have e2 : i + 1 + (k - (i + 1)) = k := by omega
  rw [List.getElem?_eq_getElem hlt] at hc
  simp only [Option.some.injEq] at hc
  simp only [e2, hc]
theorem goneTo_end (cs : List Chg) (g0 : Bool) (i id k : Nat) (hk : cs.length ≤ k) : goneTo cs g0 i id k = (g0 || gone (cs.drop (i + 1)) id) := by
  unfold goneTo gone
  rw [List.take_of_length_le (by rw [List.length_drop]; omega)]
theorem keep_eq (cs : List Chg) (i : Nat) (c : Chg) (hc : cs[i]? = some c) : keep cs i = !(!c.ins || gone (cs.drop (i + 1)) c.id) := by
  unfold keep; rw [hc]; simp
theorem thereTo_hit (cs : List Chg) (i : Nat) (c : Chg) (hc : cs[i]? = some c) (h : keep cs i = true) : thereTo cs (i + 1) = thereTo cs i ++ [c] := by
  rw [thereTo, if_pos h, hc]; rfl
theorem thereTo_miss (cs : List Chg) (i : Nat) (h : keep cs i = false) : thereTo cs (i + 1) = thereTo cs i := by
  rw [thereTo, h]; simp

end Go.Proofs.Ytpikkedeoebiaaa.Do
