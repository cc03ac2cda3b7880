/- The law's own memory: its books, whose block is whose, and what a step leaves. -/
import Derived.Test.YtpikkedeoebiaaaRefS
import Derived.Test.YtpikkedeoebiaaaArgA
namespace Go.Proofs.Ytpikkedeoebiaaa
open Go.RowKit
set_option maxRecDepth 100000

/-- a book: the code's index, the document's; the changes that each has seen -/
structure Bk where
  x : Nat
  r : Nat
  a : Int
  b : Int
  p : Int
  cx : List Do.Chg
  cr : List Do.Chg
def bk1 (b : Bk) : List Value := [.pointer (some ⟨b.x, 0, none⟩), .pointer (some ⟨b.r, 0, none⟩)]
def bks (l : List Bk) : List Value := l.flatMap bk1
theorem bks_append (a b : List Bk) : bks (a ++ b) = bks a ++ bks b := by simp [bks]
theorem bks_get (l : List Bk) (k j : Nat) (o : Bk) (ho : l[k]? = some o) (hj : j < 2) : (bks l)[k * 2 + j]? = (bk1 o)[j]? := by
  induction l generalizing k with
  | nil => simp at ho
  | cons d r ih =>
    cases k with
    | zero =>
      simp at ho; subst ho
      show (bk1 d ++ bks r)[0 * 2 + j]? = _
      rw [Nat.zero_mul, Nat.zero_add, List.getElem?_append_left (by show j < 2; exact hj)]
    | succ k =>
      simp at ho
      show (bk1 d ++ bks r)[(k + 1) * 2 + j]? = _
      rw [List.getElem?_append_right (by show 2 ≤ _; omega), ← ih k ho]
      congr 1
      show (k + 1) * 2 + j - 2 = _; omega

/-- a block whose drawer it is: what is asked of it here -/
structure Drawn (DP : World → Nat → (Nat → Prop) → Prop) : Prop where
  lt : ∀ {w D F}, DP w D F → ∀ k, F k → k < w.heap.size
  frame : ∀ {w w' D F}, DP w D F → w.heap.size ≤ w'.heap.size → (∀ k, F k → w'.heap[k]? = w.heap[k]?) → DP w' D F
  wide : ∀ {w D F G}, DP w D F → (∀ k, F k → G k) → (∀ k, G k → k < w.heap.size) → DP w D G
  looks : ∀ {w D F}, DP w D F → Calls Try.prog 50 #[.pointer (some ⟨D, 0, none⟩)] w fun e w' => e = .returned (.bool true) ∧ Below w.heap.size w w'

theorem Only.cell {F : Nat → Prop} {w w' : World} (h : Only F w w') {k j : Nat} (hk : k < w.heap.size) (hf : ¬ F k) : w'.cell? ⟨k, j, none⟩ = w.cell? ⟨k, j, none⟩ := World.cell?_of_block (h.block k hk hf)

/-- whose block is whose: 0 nobody's here, 1 the law's, 2 the drawer's, then the books', two each -/
structure Inv (At : World → Nat → Int → Int → Int → List Do.Chg → (Nat → Prop) → Prop) (DP : World → Nat → (Nat → Prop) → Prop) (w : World) (B G D : Nat) (v : Value) (bs : List Bk) (own : Nat → Nat) : Prop where
  wo : w.heap[G]? = some (.cells #[v, .pointer (some ⟨D, 0, none⟩)] 31 (0, 0))
  row : w.ownsRow 0 121 2 v bs.length (bks bs)
  rowOwn : ∀ g, v.ownBlock = some g → own g = 1
  ownG : own G = 1
  dr : DP w D (fun k => own k = 2)
  code : ∀ i b, bs[i]? = some b → At w b.x b.a b.b b.p b.cx (fun k => own k = 3 + 2 * i)
  ref : ∀ i b, bs[i]? = some b → RIdx w b.r b.a b.b b.p b.cr (fun k => own k = 4 + 2 * i)
  mine : ∀ k, own k ≠ 0 → B ≤ k ∧ k < w.heap.size

section
variable {At : World → Nat → Int → Int → Int → List Do.Chg → (Nat → Prop) → Prop} {DP : World → Nat → (Nat → Prop) → Prop}
variable {w w' : World} {B G D : Nat} {v : Value} {bs : List Bk} {own : Nat → Nat}

theorem row_same {e : TypeId} {size n : Nat} {xs : List Value} {b0 : Nat} {u : Value} (h : w.ownsRow b0 e size u n xs) (hf : ∀ g, u.ownBlock = some g → w'.heap[g]? = w.heap[g]?) : w'.ownsRow b0 e size u n xs := by
  refine ⟨h.1, ?_⟩
  rcases h.2 with hn | ⟨g, cap, cur, rfl, hB, hg, rest⟩
  · exact .inl hn
  · exact .inr ⟨g, cap, cur, rfl, hB, by rw [hf g rfl]; exact hg, rest⟩

/-- nothing of what is labelled has turned -/
theorem Inv.quiet (hC : Serves At 67 73 74 28 34 36 56 35) (hD : Drawn DP) (h : Inv At DP w B G D v bs own) (hb : Below w.heap.size w w') : Inv At DP w' B G D v bs own := by
  have hs : ∀ k, own k ≠ 0 → w'.heap[k]? = w.heap[k]? := fun k hk => hb.block k (h.mine k hk).2
  refine ⟨(hs G (by rw [h.ownG]; decide)).trans h.wo, row_same h.row (fun g hg => hs g (by rw [h.rowOwn g hg]; decide)), h.rowOwn, h.ownG, hD.frame h.dr hb.size (fun k hk => hs k (by rw [hk]; decide)), fun i b hi => hC.frame (h.code i b hi) hb.size (fun k hk => hs k (by rw [hk]; omega)), fun i b hi => ref_serves.frame (h.ref i b hi) hb.size (fun k hk => hs k (by rw [hk]; omega)), fun k hk => ⟨(h.mine k hk).1, Nat.lt_of_lt_of_le (h.mine k hk).2 hb.size⟩⟩

/-- the labels behind a step of t's, who has come by the blocks N -/
def relabel (own : Nat → Nat) (n t : Nat) (N : Nat → Prop) [DecidablePred N] (k : Nat) : Nat := if k < n then own k else if N k then t else 0

theorem relabel_old {n t : Nat} {N : Nat → Prop} [DecidablePred N] {k : Nat} (h : k < n) : relabel own n t N k = own k := if_pos h

/-- the code's index of book i has turned, and nothing else -/
theorem Inv.codeStep (hC : Serves At 67 73 74 28 34 36 56 35) (hD : Drawn DP) (h : Inv At DP w B G D v bs own) (i : Nat) (b : Bk) (cx : List Do.Chg) (hi : bs[i]? = some b) (ho : Only (fun k => own k = 3 + 2 * i) w w') (hBw : B ≤ w.heap.size)
    (hn : ∃ N, At w' b.x b.a b.b b.p cx N ∧ ∀ k, N k → own k = 3 + 2 * i ∨ w.heap.size ≤ k) : ∃ own', Inv At DP w' B G D v (bs.set i { b with cx := cx }) own' ∧ ∀ k, k < w.heap.size → own' k = own k := by
  obtain ⟨N, hN, hNk⟩ := hn
  have dec : DecidablePred N := fun _ => Classical.propDecidable _
  have hs : ∀ k, own k ≠ 0 → own k ≠ 3 + 2 * i → w'.heap[k]? = w.heap[k]? := fun k hk hne => ho.block k (h.mine k hk).2 hne
  have hold : ∀ k, own k ≠ 0 → relabel own w.heap.size (3 + 2 * i) N k = own k := fun k hk => relabel_old (h.mine k hk).2
  have hback : ∀ t, t ≠ 0 → t ≠ 3 + 2 * i → ∀ k, own k = t → relabel own w.heap.size (3 + 2 * i) N k = t := fun t ht _ k hk => by rw [hold k (by rw [hk]; exact ht)]; exact hk
  have hlt : ∀ t, t ≠ 0 → ∀ k, relabel own w.heap.size (3 + 2 * i) N k = t → k < w'.heap.size := fun t ht k hk => by
    unfold relabel at hk
    by_cases h1 : k < w.heap.size
    · exact Nat.lt_of_lt_of_le h1 ho.size
    · rw [if_neg h1] at hk
      by_cases h2 : N k
      · exact hC.lt hN k h2
      · rw [if_neg h2] at hk; exact absurd hk.symm ht
  refine ⟨relabel own w.heap.size (3 + 2 * i) N, ⟨?_, ?_, ?_, ?_, ?_, ?_, ?_, ?_⟩, fun k hk => relabel_old hk⟩
  · exact (hs G (by rw [h.ownG]; decide) (by rw [h.ownG]; omega)).trans h.wo
  · have hr := row_same h.row (fun g hg => hs g (by rw [h.rowOwn g hg]; decide) (by rw [h.rowOwn g hg]; omega))
    rw [List.length_set]
    have : bks (bs.set i { b with cx := cx }) = bks bs := by
      have hget := hi
      clear hN hNk hs hold hback hlt ho hr h
      induction bs generalizing i with
      | nil => rfl
      | cons d r ih =>
        cases i with
        | zero => simp at hget; subst hget; rfl
        | succ i =>
          simp at hget
          show bk1 d ++ bks (r.set i { b with cx := cx }) = bk1 d ++ bks r
          rw [ih i hget hget]
    rw [this]; exact hr
  · intro g hg
    rw [hold g (by rw [h.rowOwn g hg]; decide)]; exact h.rowOwn g hg
  · rw [hold G (by rw [h.ownG]; decide)]; exact h.ownG
  · exact hD.wide (hD.frame h.dr ho.size (fun k hk => hs k (by rw [hk]; decide) (by rw [hk]; omega))) (hback 2 (by decide) (by omega)) (hlt 2 (by decide))
  · intro j c hj
    rw [List.getElem?_set] at hj
    by_cases e : i = j
    · subst e
      rw [if_pos rfl] at hj
      split at hj
      · simp only [Option.some.injEq] at hj
        subst hj
        refine hC.wide hN (fun k hk => ?_) (hlt _ (by omega))
        unfold relabel
        rcases hNk k hk with h1 | h1
        · rw [if_pos (h.mine k (by rw [h1]; omega)).2]; exact h1
        · rw [if_neg (by omega), if_pos hk]
      · cases hj
    · rw [if_neg e] at hj
      exact hC.wide (hC.frame (h.code j c hj) ho.size (fun k hk => hs k (by rw [hk]; omega) (by rw [hk]; omega))) (hback _ (by omega) (by omega)) (hlt _ (by omega))
  · intro j c hj
    rw [List.getElem?_set] at hj
    by_cases e : i = j
    · subst e
      rw [if_pos rfl] at hj
      split at hj
      · simp only [Option.some.injEq] at hj
        subst hj
        exact ref_serves.wide (ref_serves.frame (h.ref i b hi) ho.size (fun k hk => hs k (by rw [hk]; omega) (by rw [hk]; omega))) (hback _ (by omega) (by omega)) (hlt _ (by omega))
      · cases hj
    · rw [if_neg e] at hj
      exact ref_serves.wide (ref_serves.frame (h.ref j c hj) ho.size (fun k hk => hs k (by rw [hk]; omega) (by rw [hk]; omega))) (hback _ (by omega) (by omega)) (hlt _ (by omega))
  · intro k hk
    refine ⟨?_, hlt _ hk k rfl⟩
    unfold relabel at hk
    by_cases h1 : k < w.heap.size
    · rw [if_pos h1] at hk; exact (h.mine k hk).1
    · omega

/-- the document's index of book i has turned, and nothing else -/
theorem Inv.refStep (hC : Serves At 67 73 74 28 34 36 56 35) (hD : Drawn DP) (h : Inv At DP w B G D v bs own) (i : Nat) (b : Bk) (cr : List Do.Chg) (hi : bs[i]? = some b) (ho : Only (fun k => own k = 4 + 2 * i) w w') (hBw : B ≤ w.heap.size)
    (hn : ∃ N, RIdx w' b.r b.a b.b b.p cr N ∧ ∀ k, N k → own k = 4 + 2 * i ∨ w.heap.size ≤ k) : ∃ own', Inv At DP w' B G D v (bs.set i { b with cr := cr }) own' ∧ ∀ k, k < w.heap.size → own' k = own k := by
  obtain ⟨N, hN, hNk⟩ := hn
  have dec : DecidablePred N := fun _ => Classical.propDecidable _
  have hs : ∀ k, own k ≠ 0 → own k ≠ 4 + 2 * i → w'.heap[k]? = w.heap[k]? := fun k hk hne => ho.block k (h.mine k hk).2 hne
  have hold : ∀ k, own k ≠ 0 → relabel own w.heap.size (4 + 2 * i) N k = own k := fun k hk => relabel_old (h.mine k hk).2
  have hback : ∀ t, t ≠ 0 → t ≠ 4 + 2 * i → ∀ k, own k = t → relabel own w.heap.size (4 + 2 * i) N k = t := fun t ht _ k hk => by rw [hold k (by rw [hk]; exact ht)]; exact hk
  have hlt : ∀ t, t ≠ 0 → ∀ k, relabel own w.heap.size (4 + 2 * i) N k = t → k < w'.heap.size := fun t ht k hk => by
    unfold relabel at hk
    by_cases h1 : k < w.heap.size
    · exact Nat.lt_of_lt_of_le h1 ho.size
    · rw [if_neg h1] at hk
      by_cases h2 : N k
      · exact ref_serves.lt hN k h2
      · rw [if_neg h2] at hk; exact absurd hk.symm ht
  refine ⟨relabel own w.heap.size (4 + 2 * i) N, ⟨?_, ?_, ?_, ?_, ?_, ?_, ?_, ?_⟩, fun k hk => relabel_old hk⟩
  · exact (hs G (by rw [h.ownG]; decide) (by rw [h.ownG]; omega)).trans h.wo
  · have hr := row_same h.row (fun g hg => hs g (by rw [h.rowOwn g hg]; decide) (by rw [h.rowOwn g hg]; omega))
    rw [List.length_set]
    have : bks (bs.set i { b with cr := cr }) = bks bs := by
      have hget := hi
      clear hN hNk hs hold hback hlt ho hr h
      induction bs generalizing i with
      | nil => rfl
      | cons d r ih =>
        cases i with
        | zero => simp at hget; subst hget; rfl
        | succ i =>
          simp at hget
          show bk1 d ++ bks (r.set i { b with cr := cr }) = bk1 d ++ bks r
          rw [ih i hget hget]
    rw [this]; exact hr
  · intro g hg
    rw [hold g (by rw [h.rowOwn g hg]; decide)]; exact h.rowOwn g hg
  · rw [hold G (by rw [h.ownG]; decide)]; exact h.ownG
  · exact hD.wide (hD.frame h.dr ho.size (fun k hk => hs k (by rw [hk]; decide) (by rw [hk]; omega))) (hback 2 (by decide) (by omega)) (hlt 2 (by decide))
  · intro j c hj
    rw [List.getElem?_set] at hj
    by_cases e : i = j
    · subst e
      rw [if_pos rfl] at hj
      split at hj
      · simp only [Option.some.injEq] at hj
        subst hj
        exact hC.wide (hC.frame (h.code i b hi) ho.size (fun k hk => hs k (by rw [hk]; omega) (by rw [hk]; omega))) (hback _ (by omega) (by omega)) (hlt _ (by omega))
      · cases hj
    · rw [if_neg e] at hj
      exact hC.wide (hC.frame (h.code j c hj) ho.size (fun k hk => hs k (by rw [hk]; omega) (by rw [hk]; omega))) (hback _ (by omega) (by omega)) (hlt _ (by omega))
  · intro j c hj
    rw [List.getElem?_set] at hj
    by_cases e : i = j
    · subst e
      rw [if_pos rfl] at hj
      split at hj
      · simp only [Option.some.injEq] at hj
        subst hj
        refine ref_serves.wide hN (fun k hk => ?_) (hlt _ (by omega))
        unfold relabel
        rcases hNk k hk with h1 | h1
        · rw [if_pos (h.mine k (by rw [h1]; omega)).2]; exact h1
        · rw [if_neg (by omega), if_pos hk]
      · cases hj
    · rw [if_neg e] at hj
      exact ref_serves.wide (ref_serves.frame (h.ref j c hj) ho.size (fun k hk => hs k (by rw [hk]; omega) (by rw [hk]; omega))) (hback _ (by omega) (by omega)) (hlt _ (by omega))
  · intro k hk
    refine ⟨?_, hlt _ hk k rfl⟩
    unfold relabel at hk
    by_cases h1 : k < w.heap.size
    · rw [if_pos h1] at hk; exact (h.mine k hk).1
    · omega
end

end Go.Proofs.Ytpikkedeoebiaaa
