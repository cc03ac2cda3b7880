/- The code's index serves. -/
import Derived.Test.YtpikkedeoebiaaaCodeE
namespace Go.Proofs.Ytpikkedeoebiaaa
open Go.RowKit
set_option maxRecDepth 100000

theorem code_serves : Serves CIdx 67 73 74 28 34 36 56 35 where
  lt := by rintro w x a b p cs F ⟨v, _, _, _, h4, _⟩; exact h4
  frame := by
    rintro w w' x a b p cs F ⟨v, h1, h2, h3, h4, h5, h6, h7⟩ hsz hfr
    refine ⟨v, (hfr x (h3 x (.inl rfl))).trans h1, ?_, h3, fun k hk => Nat.lt_of_lt_of_le (h4 k hk) hsz, h5, h6, h7⟩
    refine ⟨h2.1, ?_⟩
    rcases h2.2 with hn | ⟨g, cap, cur, rfl, hB, hg, rest⟩
    · exact .inl hn
    · exact .inr ⟨g, cap, cur, rfl, hB, by rw [hfr g (h3 g (.inr rfl))]; exact hg, rest⟩
  wide := by
    rintro w x a b p cs F G ⟨v, h1, h2, h3, h4, h5, h6, h7⟩ hfg hg
    exact ⟨v, h1, h2, fun k hk => hfg k (h3 k hk), hg, h5, h6, h7⟩
  new_ok := by
    intro a b p w h
    refine (cNew_ok a b p w ⟨h.1, h.2.1⟩ ⟨h.2.2.1, h.2.2.2.1⟩ h.2.2.2.2).mono ?_
    rintro e w' ⟨r, he, hr, hra, hb⟩
    refine ⟨r, fun k => k = r, he, ⟨_, hra, World.ownsRow_nil _ _ _ _, fun k hk => ?_, fun k hk => by rw [hk]; exact hra.lt, by intro c hc; simp [Do.there, Do.thereTo] at hc, h, by decide⟩, fun k hk => by rw [hk]; exact hr, hb⟩
    rcases hk with rfl | hk
    · rfl
    · simp [Value.ownBlock] at hk
  new_no := by
    intro a b p w h
    exact cNew_no a b p w h
  insert := by
    intro w x a b p cs F s hl hs h
    have h' := h
    obtain ⟨v, h1, h2, h3, h4, h5, h6, h7⟩ := h
    unfold insRes
    by_cases c1 : 40 < s.size
    · rw [if_pos c1]
      refine (cInsert_long x s w c1).mono ?_
      rintro e w' ⟨he, hw⟩
      exact ⟨he, h'.stay (by rw [hw]; exact Below.refl _ _)⟩
    · rw [if_neg c1]
      by_cases c2 : a < (Do.size (Do.there cs) : Int) + s.size ∨ 60 ≤ (Do.there cs).length
      · rw [if_pos c2]
        refine (cInsert_full x a b p v _ _ _ s w h7 h5 ⟨h6.1, h6.2.1⟩ h1 h2 (by omega) c2).mono ?_
        rintro e w' ⟨he, hb⟩
        exact ⟨he, h'.stay hb⟩
      · rw [if_neg c2]
        have hit := insTo_le cs cs.length
        refine (cInsert_ok x a b p v (insTo cs cs.length) cs.length (Do.there cs) s w h7 (by omega) (by omega) h5 ⟨h6.1, h6.2.1⟩ h1 h2 (by omega) c2).mono ?_
        rintro e w' ⟨he, v', q1, q2, q3, q4⟩
        refine ⟨he, q3.mono h3, fun k => foot x v' k, ⟨v', ?_, ?_, fun k hk => hk, fun k hk => ?_, ?_, h6, ?_⟩, fun k hk => (q4 k hk).imp (h3 k) (fun h => h)⟩
        · rw [insTo_more]
          simpa using q1
        · rw [Do.there_ins _ _ rfl]; exact q2
        · rcases hk with rfl | hk
          · exact q1.lt
          · exact (World.ownsRow.lt q2 k hk).2
        · intro c hc
          rw [Do.there_ins _ _ rfl, List.mem_append] at hc
          rcases hc with hc | hc
          · exact h5 c hc
          · simp at hc; subst hc; show s.size ≤ 40; omega
        · rw [Do.there_ins _ _ rfl]; simp; omega
  delete := by
    intro w x a b p cs F id hl _ h
    have h' := h
    obtain ⟨v, h1, h2, h3, h4, h5, h6, h7⟩ := h
    unfold delRes
    cases hat : Do.at? (Do.there cs) id with
    | none =>
      refine (cDelete_none x a b p v _ _ _ id w h7 h1 h2 hat).mono ?_
      rintro e w' ⟨he, hb⟩
      exact ⟨he, h'.stay hb⟩
    | some k =>
      obtain ⟨c, hc, hid⟩ := at_get _ _ _ hat
      subst hid
      simp only [hc]
      refine (cDelete_ok x a b p v _ cs.length (Do.there cs) c.id k c w h7 (by omega) h1 h2 hat hc).mono ?_
      rintro e w' ⟨he, v', q1, q2, q3, q4⟩
      have hth : Do.there (cs ++ [⟨false, c.doc, (c.id : Int).toNat⟩]) = Do.without (Do.there cs) (c.id : Int) (Do.there cs).length := by
        rw [Do.there_del _ _ rfl, Do.without_all]; rfl
      refine ⟨he, q3.mono h3, fun k => foot x v' k, ⟨v', ?_, ?_, fun k hk => hk, fun k hk => ?_, ?_, h6, ?_⟩, fun k hk => (q4 k hk).imp (h3 k) (fun h => h)⟩
      · rw [insTo_more]
        simpa using q1
      · rw [hth]; exact q2
      · rcases hk with rfl | hk
        · exact q1.lt
        · exact (World.ownsRow.lt q2 k hk).2
      · intro d hd
        rw [Do.there_del _ _ rfl] at hd
        exact h5 d (List.mem_filter.1 hd).1
      · rw [Do.there_del _ _ rfl]; exact Nat.le_trans (List.length_filter_le _ _) h7
  extract := by
    intro w x a b p cs F id f t hl _ _ _ h
    obtain ⟨v, h1, h2, h3, h4, h5, h6, h7⟩ := h
    unfold exRes
    cases hat : Do.at? (Do.there cs) id with
    | none => exact cExtract_none x a b p v _ _ _ id f t w h7 h1 h2 hat
    | some k =>
      obtain ⟨c, hc, hid⟩ := at_get _ _ _ hat
      simp only [hc]
      refine (cExtract_some x a b p v _ _ _ id f t k c w h7 h1 h2 hat hc (h5 c (List.mem_of_getElem? hc))).mono ?_
      rintro e w' ⟨he, hb⟩
      refine ⟨?_, hb⟩
      rw [he]
      split <;> rfl
  count := by
    intro w x a b p cs F s hl hs h
    obtain ⟨v, h1, h2, h3, h4, h5, h6, h7⟩ := h
    unfold cntRes
    by_cases c1 : s.size < 1 ∨ 16 < s.size
    · rw [if_pos c1]
      exact (cxCount_no x s w c1).mono fun e w' ⟨he, hw⟩ => ⟨he, by rw [hw]; exact Below.refl _ _⟩
    · rw [if_neg c1]
      exact cxCount_ok x a b p v _ _ _ s w h7 h5 h1 h2 (by omega)
  locate := by
    intro w x a b p cs F s n i t hl hs _ _ _ h
    obtain ⟨v, h1, h2, h3, h4, h5, h6, h7⟩ := h
    unfold locRes
    by_cases c1 : s.size < 1 ∨ 16 < s.size
    · rw [if_pos c1]
      exact (cLocate_no x s n i t w c1).mono fun e w' ⟨he, hw⟩ => ⟨_, he, World.ownsRow_nil _ _ _ _, by rw [hw]; exact Below.refl _ _⟩
    · rw [if_neg c1]
      by_cases c2 : n ≠ (cs.length : Int)
      · rw [if_pos c2]
        exact (cLocate_stale x a b p v _ _ s n i t w h1 (by omega) c2).mono fun e w' ⟨he, hw⟩ => ⟨_, he, World.ownsRow_nil _ _ _ _, by rw [hw]; exact Below.refl _ _⟩
      · rw [if_neg c2]
        have hn : n = (cs.length : Int) := by omega
        subst hn
        obtain ⟨q, rfl⟩ := Int.eq_ofNat_of_zero_le (show 0 ≤ p by have := h6.2.2.2.2.1; omega)
        exact cLocate_ok x a b q v _ _ _ s i t w h7 h5 h1 h2 (by have := h6.2.2.2.2; omega) (by omega)
  list := by
    intro w x a b p cs F t n hl _ _ h
    obtain ⟨v, h1, h2, h3, h4, h5, h6, h7⟩ := h
    unfold lstRes
    by_cases c1 : n < 1 ∨ 8 < n
    · rw [if_pos c1]
      exact (cList_arg x t n w c1).mono fun e w' ⟨he, hw⟩ => ⟨_, he, World.ownsRow_nil _ _ _ _, by rw [hw]; exact Below.refl _ _⟩
    · rw [if_neg c1]
      obtain ⟨q, rfl⟩ := Int.eq_ofNat_of_zero_le (show 0 ≤ n by omega)
      exact cList_ok x a b p v _ _ _ t q w h7 h1 h2 (by omega)
  version := by
    intro w x a b p cs F _ h
    obtain ⟨v, h1, _⟩ := h
    exact (cVersion_any x a b p v _ _ w h1).mono fun e w' ⟨he, hw⟩ => ⟨he, by rw [hw]; exact Below.refl _ _⟩

end Go.Proofs.Ytpikkedeoebiaaa
