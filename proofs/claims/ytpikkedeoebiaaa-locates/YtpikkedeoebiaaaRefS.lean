/- What an index serves, and that the document's own does. -/
import Derived.Test.YtpikkedeoebiaaaRefH
import Derived.Test.YtpikkedeoebiaaaDocD
import Derived.Test.YtpikkedeoebiaaaArgA
namespace Go.Proofs.Ytpikkedeoebiaaa
open Go.RowKit
set_option maxRecDepth 100000

/-- Insert's answer: the id, the error, the changes behind it -/
def insRes (cs : List Do.Chg) (a : Int) (s : ByteArray) : Int × Int × List Do.Chg :=
  if 40 < s.size then (0, 2, cs) else if a < (Do.size (Do.there cs) : Int) + s.size ∨ 60 ≤ (Do.there cs).length then (0, 3, cs) else ((insTo cs cs.length : Nat), 0, cs ++ [⟨true, s, insTo cs cs.length⟩])
/-- Delete's answer -/
def delRes (cs : List Do.Chg) (id : Int) : Int × List Do.Chg := match Do.at? (Do.there cs) id with
  | none => (4, cs)
  | some k => match (Do.there cs)[k]? with
    | none => (4, cs)
    | some c => (0, cs ++ [⟨false, c.doc, id.toNat⟩])
def cntRes (cs : List Do.Chg) (s : ByteArray) : Int × Int :=
  if s.size < 1 ∨ 16 < s.size then (0, 5) else ((Do.hits (Do.there cs) s.data.toList).length, 0)
def locRes (cs : List Do.Chg) (p : Int) (s : ByteArray) (n i t : Int) : List Do.Oc × Bool × Int :=
  if s.size < 1 ∨ 16 < s.size then ([], false, 5) else if n ≠ (cs.length : Int) then ([], false, 6) else ((Do.page (Do.hits (Do.there cs) s.data.toList) i t p.toNat).1, (Do.page (Do.hits (Do.there cs) s.data.toList) i t p.toNat).2, 0)
def lstRes (cs : List Do.Chg) (t n : Int) : List Nat × Int :=
  if n < 1 ∨ 8 < n then ([], 9) else (Do.ids (Do.there cs) t n.toNat, 0)
def okc (a b p : Int) : Prop := 1 ≤ a ∧ a ≤ 400 ∧ 1 ≤ b ∧ b ≤ 80 ∧ 1 ≤ p ∧ p ≤ 8

/-- a kind of index: how it lies in memory (the world, its block, its configuration, its changes, all its blocks), and that its calls answer as the document says -/
structure Serves (At : World → Nat → Int → Int → Int → List Do.Chg → (Nat → Prop) → Prop) (new ins del ext cnt loc lst ver : Nat) : Prop where
  lt : ∀ {w x a b p cs F}, At w x a b p cs F → ∀ k, F k → k < w.heap.size
  frame : ∀ {w w' x a b p cs F}, At w x a b p cs F → w.heap.size ≤ w'.heap.size → (∀ k, F k → w'.heap[k]? = w.heap[k]?) → At w' x a b p cs F
  wide : ∀ {w x a b p cs F G}, At w x a b p cs F → (∀ k, F k → G k) → (∀ k, G k → k < w.heap.size) → At w x a b p cs G
  new_ok : ∀ (a b p : Int) (w : World), okc a b p → Calls Try.prog new #[.agg #[.int .i64 a, .int .i64 b, .int .i64 p]] w fun e w' => ∃ x F, e = .returned (.tuple #[.pointer (some ⟨x, 0, none⟩), .int .i64 0]) ∧ At w' x a b p [] F ∧ (∀ k, F k → w.heap.size ≤ k) ∧ Below w.heap.size w w'
  new_no : ∀ (a b p : Int) (w : World), ¬ okc a b p → Calls Try.prog new #[.agg #[.int .i64 a, .int .i64 b, .int .i64 p]] w fun e w' => e = .returned (.tuple #[.pointer none, .int .i64 1]) ∧ Below w.heap.size w w'
  insert : ∀ {w x a b p cs F} (s : ByteArray), cs.length ≤ 2000000000000 → s.size ≤ 9223372036854775807 → At w x a b p cs F → Calls Try.prog ins #[.pointer (some ⟨x, 0, none⟩), .string s] w fun e w' => e = .returned (.tuple #[.int .i64 (insRes cs a s).1, .int .i64 (insRes cs a s).2.1]) ∧ Only F w w' ∧ ∃ G, At w' x a b p (insRes cs a s).2.2 G ∧ ∀ k, G k → F k ∨ w.heap.size ≤ k
  delete : ∀ {w x a b p cs F} (id : Int), cs.length ≤ 2000000000000 → inR id → At w x a b p cs F → Calls Try.prog del #[.pointer (some ⟨x, 0, none⟩), .int .i64 id] w fun e w' => e = .returned (.int .i64 (delRes cs id).1) ∧ Only F w w' ∧ ∃ G, At w' x a b p (delRes cs id).2 G ∧ ∀ k, G k → F k ∨ w.heap.size ≤ k
  extract : ∀ {w x a b p cs F} (id f t : Int), cs.length ≤ 2000000000000 → inR id → inR f → inR t → At w x a b p cs F → Calls Try.prog ext #[.pointer (some ⟨x, 0, none⟩), .int .i64 id, .int .i64 f, .int .i64 t] w fun e w' => e = .returned (.tuple #[.string (exRes (Do.there cs) id f t).1, .int .i64 (exRes (Do.there cs) id f t).2]) ∧ Below w.heap.size w w'
  count : ∀ {w x a b p cs F} (s : ByteArray), cs.length ≤ 2000000000000 → s.size ≤ 9223372036854775807 → At w x a b p cs F → Calls Try.prog cnt #[.pointer (some ⟨x, 0, none⟩), .string s] w fun e w' => e = .returned (.tuple #[.int .i64 (cntRes cs s).1, .int .i64 (cntRes cs s).2]) ∧ Below w.heap.size w w'
  locate : ∀ {w x a b p cs F} (s : ByteArray) (n i t : Int), cs.length ≤ 2000000000000 → s.size ≤ 9223372036854775807 → inR n → inR i → inR t → At w x a b p cs F → Calls Try.prog loc #[.pointer (some ⟨x, 0, none⟩), .string s, .int .i64 n, .int .i64 i, .int .i64 t] w fun e w' => ∃ v, e = .returned (.tuple #[v, .bool (locRes cs p s n i t).2.1, .int .i64 (locRes cs p s n i t).2.2]) ∧ OwnO w' w.heap.size v (locRes cs p s n i t).1 ∧ Below w.heap.size w w'
  list : ∀ {w x a b p cs F} (t n : Int), cs.length ≤ 2000000000000 → inR t → inR n → At w x a b p cs F → Calls Try.prog lst #[.pointer (some ⟨x, 0, none⟩), .int .i64 t, .int .i64 n] w fun e w' => ∃ v, e = .returned (.tuple #[v, .int .i64 (lstRes cs t n).2]) ∧ OwnV w' w.heap.size v (lstRes cs t n).1 ∧ Below w.heap.size w w'
  version : ∀ {w x a b p cs F}, cs.length ≤ 2000000000000 → At w x a b p cs F → Calls Try.prog ver #[.pointer (some ⟨x, 0, none⟩)] w fun e w' => e = .returned (.int .i64 (cs.length : Int)) ∧ Below w.heap.size w w'

/-- the document's index, its blocks told -/
def RIdx (w : World) (r : Nat) (a b p : Int) (cs : List Do.Chg) (F : Nat → Prop) : Prop :=
  ∃ v, RefAt w r a b p v ∧ OwnC w 0 v cs ∧ (∀ k, foot r v k → F k) ∧ (∀ k, F k → k < w.heap.size) ∧ (∀ c ∈ cs, c.doc.size ≤ 40) ∧ okc a b p ∧ (Do.there cs).length ≤ 60

theorem RIdx.idx {w : World} {r : Nat} {a b p : Int} {cs : List Do.Chg} {F : Nat → Prop} (h : RIdx w r a b p cs F) : IdxAt w r a b p cs := by
  obtain ⟨v, h1, h2, _⟩ := h; exact ⟨v, h1, h2⟩
theorem RIdx.docs {w : World} {r : Nat} {a b p : Int} {cs : List Do.Chg} {F : Nat → Prop} (h : RIdx w r a b p cs F) : ∀ c ∈ cs, c.doc.size ≤ 40 := by
  obtain ⟨v, _, _, _, _, h5, _⟩ := h; exact h5
theorem RIdx.few {w : World} {r : Nat} {a b p : Int} {cs : List Do.Chg} {F : Nat → Prop} (h : RIdx w r a b p cs F) : (Do.there cs).length ≤ 60 := by
  obtain ⟨v, _, _, _, _, _, _, h7⟩ := h; exact h7
theorem RIdx.conf {w : World} {r : Nat} {a b p : Int} {cs : List Do.Chg} {F : Nat → Prop} (h : RIdx w r a b p cs F) : okc a b p := by
  obtain ⟨v, _, _, _, _, _, h6, _⟩ := h; exact h6

/-- what a change leaves -/
theorem RIdx.next {w w' : World} {r : Nat} {a b p : Int} {cs' : List Do.Chg} {F : Nat → Prop} {v v' : Value} (h6 : okc a b p) (hf : ∀ k, foot r v k → F k) (h1 : RefAt w' r a b p v') (h2 : OwnC w' 0 v' cs') (h3 : Only (foot r v) w w') (h4 : ∀ k, foot r v' k → foot r v k ∨ w.heap.size ≤ k)
    (h5 : ∀ c ∈ cs', c.doc.size ≤ 40) (h7 : (Do.there cs').length ≤ 60) : Only F w w' ∧ ∃ G, RIdx w' r a b p cs' G ∧ ∀ k, G k → F k ∨ w.heap.size ≤ k := by
  refine ⟨h3.mono hf, foot r v', ⟨v', h1, h2, fun _ h => h, fun k hk => ?_, h5, h6, h7⟩, fun k hk => (h4 k hk).imp (hf k) (fun h => h)⟩
  rcases hk with rfl | hk
  · exact h1.lt
  · exact (World.ownsRow.lt h2 k hk).2
theorem RIdx.stay {w w' : World} {r : Nat} {a b p : Int} {cs : List Do.Chg} {F : Nat → Prop} (h : RIdx w r a b p cs F) (hb : Below w.heap.size w w') : Only F w w' ∧ ∃ G, RIdx w' r a b p cs G ∧ ∀ k, G k → F k ∨ w.heap.size ≤ k := by
  obtain ⟨v, h1, h2, h3, h4, h5, h6, h7⟩ := h
  refine ⟨Only.of_below hb, F, ⟨v, h1.below hb, h2.below hb, h3, fun k hk => Nat.lt_of_lt_of_le (h4 k hk) hb.size, h5, h6, h7⟩, fun k hk => .inl hk⟩

theorem at_get (cs : List Do.Chg) (id : Int) (k : Nat) (h : Do.at? cs id = some k) : ∃ c, cs[k]? = some c ∧ (c.id : Int) = id := by
  unfold Do.at? at h
  rw [List.findIdx?_eq_some_iff_getElem] at h
  obtain ⟨hk, h1, _⟩ := h
  exact ⟨cs[k], List.getElem?_eq_getElem hk, by simpa using h1⟩

theorem ref_serves : Serves RIdx 68 78 79 82 83 84 81 80 where
  lt := by rintro w x a b p cs F ⟨v, _, _, _, h4, _⟩; exact h4
  frame := by
    rintro w w' x a b p cs F ⟨v, h1, h2, h3, h4, h5, h6, h7⟩ hsz hfr
    refine ⟨v, (hfr x (h3 x (.inl rfl))).trans h1, ?_, h3, fun k hk => Nat.lt_of_lt_of_le (h4 k hk) hsz, h5, h6, h7⟩
    refine ⟨h2.1, ?_⟩
    rcases h2.2 with hn | ⟨g, cap, cur, rfl, hB, hg, rest⟩
    · exact .inl hn
    · exact .inr ⟨g, cap, cur, rfl, hB, by rw [hfr g (h3 g (.inr rfl))]; exact hg, rest⟩
  wide := by
    rintro w x a b p cs F G ⟨v, h1, h2, h3, h4, h5, h6, h7⟩ hfg hg
    exact ⟨v, h1, h2, fun k hk => hfg k (h3 k hk), hg, h5, h6, h7⟩
  new_ok := by
    intro a b p w h
    refine (rNew_ok a b p w ⟨h.1, h.2.1⟩ ⟨h.2.2.1, h.2.2.2.1⟩ h.2.2.2.2).mono ?_
    rintro e w' ⟨r, he, hr, hra, hb⟩
    refine ⟨r, fun k => k = r, he, ⟨_, hra, World.ownsRow_nil _ _ _ _, fun k hk => ?_, fun k hk => by rw [hk]; exact hra.lt, by simp, h, by decide⟩, fun k hk => by rw [hk]; exact hr, hb⟩
    rcases hk with rfl | hk
    · rfl
    · simp [Value.ownBlock] at hk
  new_no := by
    intro a b p w h
    exact rNew_no a b p w h
  insert := by
    intro w x a b p cs F s hl hs h
    have h' := h
    obtain ⟨v, h1, h2, h3, h4, h5, h6, h7⟩ := h
    unfold insRes
    by_cases c1 : 40 < s.size
    · rw [if_pos c1]
      refine (rInsert_long x a b p v cs s w (by omega) h1 h2 c1).mono ?_
      rintro e w' ⟨he, hb⟩
      exact ⟨he, h'.stay hb⟩
    · rw [if_neg c1]
      by_cases c2 : a < (Do.size (Do.there cs) : Int) + s.size ∨ 60 ≤ (Do.there cs).length
      · rw [if_pos c2]
        refine (rInsert_full x a b p v cs s w (by omega) h5 ⟨h6.1, h6.2.1⟩ h1 h2 (by omega) c2).mono ?_
        rintro e w' ⟨he, hb⟩
        exact ⟨he, h'.stay hb⟩
      · rw [if_neg c2]
        refine (rInsert_ok x a b p v cs s w (by omega) h5 ⟨h6.1, h6.2.1⟩ h1 h2 (by omega) c2).mono ?_
        rintro e w' ⟨he, v', q1, q2, q3, q4⟩
        refine ⟨he, RIdx.next h6 h3 q1 q2 q3 q4 (fun c hc => ?_) (by rw [Do.there_ins _ _ rfl]; simp; omega)⟩
        rw [List.mem_append] at hc
        rcases hc with hc | hc
        · exact h5 c hc
        · simp at hc; subst hc; show s.size ≤ 40; omega
  delete := by
    intro w x a b p cs F id hl _ h
    have h' := h
    obtain ⟨v, h1, h2, h3, h4, h5, h6, h7⟩ := h
    unfold delRes
    cases hat : Do.at? (Do.there cs) id with
    | none =>
      refine (rDelete_none x a b p v cs id w (by omega) h1 h2 hat).mono ?_
      rintro e w' ⟨he, hb⟩
      exact ⟨he, h'.stay hb⟩
    | some k =>
      obtain ⟨c, hc, hid⟩ := at_get _ _ _ hat
      subst hid
      simp only [hc]
      refine (rDelete_ok x a b p v cs c.id k c w (by omega) h1 h2 hat hc).mono ?_
      rintro e w' ⟨he, v', q1, q2, q3, q4⟩
      refine ⟨he, RIdx.next h6 h3 q1 q2 q3 q4 (fun d hd => ?_) (by rw [Do.there_del _ _ rfl]; exact Nat.le_trans (List.length_filter_le _ _) h7)⟩
      rw [List.mem_append] at hd
      rcases hd with hd | hd
      · exact h5 d hd
      · simp at hd; subst hd
        exact h5 c (there_mem cs _ c (List.mem_of_getElem? hc))
  extract := by
    intro w x a b p cs F id f t hl _ _ _ h
    unfold exRes
    cases hat : Do.at? (Do.there cs) id with
    | none => exact rExtract_none x a b p cs id f t w (by omega) h.idx hat
    | some k =>
      obtain ⟨c, hc, hid⟩ := at_get _ _ _ hat
      simp only [hc]
      refine (rExtract_some x a b p cs id f t k c w (by omega) h.idx hat hc (h.docs c (there_mem cs _ c (List.mem_of_getElem? hc)))).mono ?_
      rintro e w' ⟨he, hb⟩
      refine ⟨?_, hb⟩
      rw [he]
      split <;> rfl
  count := by
    intro w x a b p cs F s hl hs h
    unfold cntRes
    by_cases c1 : s.size < 1 ∨ 16 < s.size
    · rw [if_pos c1]
      exact (rCount_no x s w c1).mono fun e w' ⟨he, hw⟩ => ⟨he, by rw [hw]; exact Below.refl _ _⟩
    · rw [if_neg c1]
      exact rCount_ok x a b p cs s w (by omega) (by have := h.few; omega) h.docs h.idx (by omega)
  locate := by
    intro w x a b p cs F s n i t hl hs _ _ _ h
    unfold locRes
    by_cases c1 : s.size < 1 ∨ 16 < s.size
    · rw [if_pos c1]
      refine (rLocate_no x s n i t w c1).mono fun e w' ⟨he, hw⟩ => ⟨_, he, World.ownsRow_nil _ _ _ _, by rw [hw]; exact Below.refl _ _⟩
    · rw [if_neg c1]
      by_cases c2 : n ≠ (cs.length : Int)
      · rw [if_pos c2]
        exact (rLocate_stale x a b p cs s n i t w h.idx (by omega) c2).mono fun e w' ⟨he, hw⟩ => ⟨_, he, World.ownsRow_nil _ _ _ _, by rw [hw]; exact Below.refl _ _⟩
      · rw [if_neg c2]
        have hn : n = (cs.length : Int) := by omega
        subst hn
        have ho := h.conf
        obtain ⟨q, rfl⟩ := Int.eq_ofNat_of_zero_le (show 0 ≤ p by have := ho.2.2.2.2.1; omega)
        exact rLocate_ok x a b q cs s i t w (by omega) (by have := h.few; omega) h.docs h.idx (by have := ho.2.2.2.2.2; omega) (by omega)
  list := by
    intro w x a b p cs F t n hl _ _ h
    unfold lstRes
    by_cases c1 : n < 1 ∨ 8 < n
    · rw [if_pos c1]
      exact (rList_arg x t n w c1).mono fun e w' ⟨he, hw⟩ => ⟨_, he, World.ownsRow_nil _ _ _ _, by rw [hw]; exact Below.refl _ _⟩
    · rw [if_neg c1]
      obtain ⟨q, rfl⟩ := Int.eq_ofNat_of_zero_le (show 0 ≤ n by omega)
      exact rList_ok x a b p cs t q w (by omega) h.idx (by omega)
  version := by
    intro w x a b p cs F _ h
    exact (rVersion_any x a b p cs w h.idx).mono fun e w' ⟨he, hw⟩ => ⟨he, by rw [hw]; exact Below.refl _ _⟩

end Go.Proofs.Ytpikkedeoebiaaa
