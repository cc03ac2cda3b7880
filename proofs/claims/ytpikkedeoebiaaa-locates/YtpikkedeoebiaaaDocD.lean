/- Plain lists: what is there behind one change more. -/
import Derived.Test.YtpikkedeoebiaaaDocA
namespace Go.Proofs.Ytpikkedeoebiaaa.Do

theorem gone_append (cs : List Chg) (c : Chg) (id : Nat) : gone (cs ++ [c]) id = (gone cs id || (!c.ins && c.id == id)) := by
  simp [gone, List.any_append]
theorem keep_append (cs : List Chg) (c d : Chg) (i : Nat) (hd : cs[i]? = some d) : keep (cs ++ [c]) i = (keep cs i && !(!c.ins && c.id == d.id)) := by
  have hi : i < cs.length := by
    rcases Nat.lt_or_ge i cs.length with h | h
    · exact h
    · rw [List.getElem?_eq_none h] at hd; cases hd
  unfold keep
  rw [List.getElem?_append_left hi, hd]
  have : (cs ++ [c]).drop (i + 1) = cs.drop (i + 1) ++ [c] := by rw [List.drop_append_of_le_length (by omega)]
  simp only [this, gone_append, Bool.not_or, Bool.and_assoc]
theorem thereTo_ins (cs : List Chg) (c : Chg) (hc : c.ins = true) : ∀ i, i ≤ cs.length → thereTo (cs ++ [c]) i = thereTo cs i
  | 0, _ => rfl
  | i + 1, hi => by
    have hd : cs[i]? = some cs[i] := List.getElem?_eq_getElem (by omega)
    rw [thereTo, thereTo, thereTo_ins cs c hc i (by omega), keep_append cs c _ i hd, List.getElem?_append_left (by omega), hc]
    simp
/-- an Insert puts its document behind the others -/
theorem there_ins (cs : List Chg) (c : Chg) (hc : c.ins = true) : there (cs ++ [c]) = there cs ++ [c] := by
  unfold there
  rw [List.length_append, List.length_singleton, thereTo_hit (cs ++ [c]) cs.length c (by simp) ?_, thereTo_ins cs c hc _ (Nat.le_refl _)]
  rw [keep_eq _ _ c (by simp), hc]
  rw [List.drop_eq_nil_of_le (by simp)]
  rfl
theorem thereTo_del (cs : List Chg) (c : Chg) (hc : c.ins = false) : ∀ i, i ≤ cs.length → thereTo (cs ++ [c]) i = (thereTo cs i).filter fun d => !(c.id == d.id)
  | 0, _ => rfl
  | i + 1, hi => by
    have hd : cs[i]? = some cs[i] := List.getElem?_eq_getElem (by omega)
    rw [thereTo, thereTo, thereTo_del cs c hc i (by omega), keep_append cs c _ i hd, List.getElem?_append_left (by omega), hc, List.filter_append, hd]
    congr 1
    cases keep cs i
    · simp
    · by_cases h : c.id = cs[i].id <;> simp [h]
/-- a Delete takes away all that bear its id -/
theorem there_del (cs : List Chg) (c : Chg) (hc : c.ins = false) : there (cs ++ [c]) = (there cs).filter fun d => !(c.id == d.id) := by
  unfold there
  rw [List.length_append, List.length_singleton, thereTo_miss _ _ ?_, thereTo_del cs c hc _ (Nat.le_refl _)]
  rw [keep_eq _ _ c (by simp), hc]
  rfl

end Go.Proofs.Ytpikkedeoebiaaa.Do
