/- LawA, LawB, LawC, LawD, LawE, LawF, LawG, LawH, LawQ. -/
import Derived.Test.YthkndfkkgncjfabRefSJC
import Derived.Test.YthkndfkkgncjfabRefSJA
import Derived.Deep.RegionHeld3
import Derived.Test.YthkndfkkgncjfabShtKJB
namespace Go.Proofs.Ythkndfkkgncjfab
open Go.RowKit
set_option maxRecDepth 100000

/-- a book: the code's index, the document's; the changes that each has seen -/
structure Bk where
  x : Nat
  r : Nat
  a : Int
  b : Int
  p : Int
  cx : List Do.Chg
  cr : List Do.Chg
def bk1 (b : Bk) : List Value := [.pointer (some ⟨b.x, 0, none⟩), .pointer (some ⟨b.r, 0, none⟩)]
def bks (l : List Bk) : List Value := l.flatMap bk1
theorem bks_append (a b : List Bk) : bks (a ++ b) = bks a ++ bks b := by simp [bks]
theorem bks_get (l : List Bk) (k j : Nat) (o : Bk) (ho : l[k]? = some o) (hj : j < 2) : (bks l)[k * 2 + j]? = (bk1 o)[j]? := by
  induction l generalizing k with
  | nil => simp at ho
  | cons d r ih =>
    cases k with
    | zero =>
      simp at ho; subst ho
      show (bk1 d ++ bks r)[0 * 2 + j]? = _
      rw [Nat.zero_mul, Nat.zero_add, List.getElem?_append_left (by show j < 2; exact hj)]
    | succ k =>
      simp at ho
      show (bk1 d ++ bks r)[(k + 1) * 2 + j]? = _
      rw [List.getElem?_append_right (by show 2 ≤ _; omega), ← ih k ho]
      congr 1
      show (k + 1) * 2 + j - 2 = _; omega

/-- a block whose drawer it is: what is asked of it here -/
structure Drawn (DP : World → Nat → (Nat → Prop) → Prop) : Prop where
  lt : ∀ {w D F}, DP w D F → ∀ k, F k → k < w.heap.size
  frame : ∀ {w w' D F}, DP w D F → w.heap.size ≤ w'.heap.size → (∀ k, F k → w'.heap[k]? = w.heap[k]?) → DP w' D F
  wide : ∀ {w D F G}, DP w D F → (∀ k, F k → G k) → (∀ k, G k → k < w.heap.size) → DP w D G
  looks : ∀ {w D F}, DP w D F → Calls Try.prog 26 #[.pointer (some ⟨D, 0, none⟩)] w fun e w' => e = .returned (.bool true) ∧ Below w.heap.size w w'

theorem Only.cell {F : Nat → Prop} {w w' : World} (h : Only F w w') {k j : Nat} (hk : k < w.heap.size) (hf : ¬ F k) : w'.cell? ⟨k, j, none⟩ = w.cell? ⟨k, j, none⟩ := World.cell?_of_block (h.block k hk hf)

/-- whose block is whose: 0 nobody's here, 1 the law's, 2 the drawer's, then the books', two each -/
structure Inv (At : World → Nat → Int → Int → Int → List Do.Chg → (Nat → Prop) → Prop) (DP : World → Nat → (Nat → Prop) → Prop) (w : World) (B G D : Nat) (v : Value) (bs : List Bk) (own : Nat → Nat) : Prop where
  wo : w.heap[G]? = some (.cells #[v, .pointer (some ⟨D, 0, none⟩)] 79 (0, 0))
  row : w.ownsRow 0 94 2 v bs.length (bks bs)
  rowOwn : ∀ g, v.ownBlock = some g → own g = 1
  ownG : own G = 1
  dr : DP w D (fun k => own k = 2)
  code : ∀ i b, bs[i]? = some b → At w b.x b.a b.b b.p b.cx (fun k => own k = 3 + 2 * i)
  ref : ∀ i b, bs[i]? = some b → RIdx w b.r b.a b.b b.p b.cr (fun k => own k = 4 + 2 * i)
  mine : ∀ k, own k ≠ 0 → B ≤ k ∧ k < w.heap.size

section
variable {At : World → Nat → Int → Int → Int → List Do.Chg → (Nat → Prop) → Prop} {DP : World → Nat → (Nat → Prop) → Prop}
variable {w w' : World} {B G D : Nat} {v : Value} {bs : List Bk} {own : Nat → Nat}

theorem row_same {e : TypeId} {size n : Nat} {xs : List Value} {b0 : Nat} {u : Value} (h : w.ownsRow b0 e size u n xs) (hf : ∀ g, u.ownBlock = some g → w'.heap[g]? = w.heap[g]?) : w'.ownsRow b0 e size u n xs := by
  refine ⟨h.1, ?_⟩
  rcases h.2 with hn | ⟨g, cap, cur, rfl, hB, hg, rest⟩
  · exact .inl hn
  · exact .inr ⟨g, cap, cur, rfl, hB, by rw [hf g rfl]; exact hg, rest⟩

/-- nothing of what is labelled has turned -/
theorem Inv.quiet (hC : Serves At 28 21 23 60 62 20 58 11) (hD : Drawn DP) (h : Inv At DP w B G D v bs own) (hb : Below w.heap.size w w') : Inv At DP w' B G D v bs own := by
  have hs : ∀ k, own k ≠ 0 → w'.heap[k]? = w.heap[k]? := fun k hk => hb.block k (h.mine k hk).2
  refine ⟨(hs G (by rw [h.ownG]; decide)).trans h.wo, row_same h.row (fun g hg => hs g (by rw [h.rowOwn g hg]; decide)), h.rowOwn, h.ownG, hD.frame h.dr hb.size (fun k hk => hs k (by rw [hk]; decide)), fun i b hi => hC.frame (h.code i b hi) hb.size (fun k hk => hs k (by rw [hk]; omega)), fun i b hi => ref_serves.frame (h.ref i b hi) hb.size (fun k hk => hs k (by rw [hk]; omega)), fun k hk => ⟨(h.mine k hk).1, Nat.lt_of_lt_of_le (h.mine k hk).2 hb.size⟩⟩

/-- the labels behind a step of t's, who has come by the blocks N -/
def relabel (own : Nat → Nat) (n t : Nat) (N : Nat → Prop) [DecidablePred N] (k : Nat) : Nat := if k < n then own k else if N k then t else 0

theorem relabel_old {n t : Nat} {N : Nat → Prop} [DecidablePred N] {k : Nat} (h : k < n) : relabel own n t N k = own k := if_pos h

/-- the code's index of book i has turned, and nothing else -/
theorem Inv.codeStep (hC : Serves At 28 21 23 60 62 20 58 11) (hD : Drawn DP) (h : Inv At DP w B G D v bs own) (i : Nat) (b : Bk) (cx : List Do.Chg) (hi : bs[i]? = some b) (ho : Only (fun k => own k = 3 + 2 * i) w w') (hBw : B ≤ w.heap.size)
    (hn : ∃ N, At w' b.x b.a b.b b.p cx N ∧ ∀ k, N k → own k = 3 + 2 * i ∨ w.heap.size ≤ k) : ∃ own', Inv At DP w' B G D v (bs.set i { b with cx := cx }) own' ∧ ∀ k, k < w.heap.size → own' k = own k := by
  obtain ⟨N, hN, hNk⟩ := hn
  have dec : DecidablePred N := fun _ => Classical.propDecidable _
  have hs : ∀ k, own k ≠ 0 → own k ≠ 3 + 2 * i → w'.heap[k]? = w.heap[k]? := fun k hk hne => ho.block k (h.mine k hk).2 hne
  have hold : ∀ k, own k ≠ 0 → relabel own w.heap.size (3 + 2 * i) N k = own k := fun k hk => relabel_old (h.mine k hk).2
  have hback : ∀ t, t ≠ 0 → t ≠ 3 + 2 * i → ∀ k, own k = t → relabel own w.heap.size (3 + 2 * i) N k = t := fun t ht _ k hk => by rw [hold k (by rw [hk]; exact ht)]; exact hk
  have hlt : ∀ t, t ≠ 0 → ∀ k, relabel own w.heap.size (3 + 2 * i) N k = t → k < w'.heap.size := fun t ht k hk => by
    unfold relabel at hk
    by_cases h1 : k < w.heap.size
    · exact Nat.lt_of_lt_of_le h1 ho.size
    · rw [if_neg h1] at hk
      by_cases h2 : N k
      · exact hC.lt hN k h2
      · rw [if_neg h2] at hk; exact absurd hk.symm ht
  refine ⟨relabel own w.heap.size (3 + 2 * i) N, ⟨?_, ?_, ?_, ?_, ?_, ?_, ?_, ?_⟩, fun k hk => relabel_old hk⟩
  · exact (hs G (by rw [h.ownG]; decide) (by rw [h.ownG]; omega)).trans h.wo
  · have hr := row_same h.row (fun g hg => hs g (by rw [h.rowOwn g hg]; decide) (by rw [h.rowOwn g hg]; omega))
    rw [List.length_set]
    have : bks (bs.set i { b with cx := cx }) = bks bs := by
      have hget := hi
      clear hN hNk hs hold hback hlt ho hr h
      induction bs generalizing i with
      | nil => rfl
      | cons d r ih =>
        cases i with
        | zero => simp at hget; subst hget; rfl
        | succ i =>
          simp at hget
          show bk1 d ++ bks (r.set i { b with cx := cx }) = bk1 d ++ bks r
          rw [ih i hget hget]
    rw [this]; exact hr
  · intro g hg
    rw [hold g (by rw [h.rowOwn g hg]; decide)]; exact h.rowOwn g hg
  · rw [hold G (by rw [h.ownG]; decide)]; exact h.ownG
  · exact hD.wide (hD.frame h.dr ho.size (fun k hk => hs k (by rw [hk]; decide) (by rw [hk]; omega))) (hback 2 (by decide) (by omega)) (hlt 2 (by decide))
  · intro j c hj
    rw [List.getElem?_set] at hj
    by_cases e : i = j
    · subst e
      rw [if_pos rfl] at hj
      split at hj
      · simp only [Option.some.injEq] at hj
        subst hj
        refine hC.wide hN (fun k hk => ?_) (hlt _ (by omega))
        unfold relabel
        rcases hNk k hk with h1 | h1
        · rw [if_pos (h.mine k (by rw [h1]; omega)).2]; exact h1
        · rw [if_neg (by omega), if_pos hk]
      · cases hj
    · rw [if_neg e] at hj
      exact hC.wide (hC.frame (h.code j c hj) ho.size (fun k hk => hs k (by rw [hk]; omega) (by rw [hk]; omega))) (hback _ (by omega) (by omega)) (hlt _ (by omega))
  · intro j c hj
    rw [List.getElem?_set] at hj
    by_cases e : i = j
    · subst e
      rw [if_pos rfl] at hj
      split at hj
      · simp only [Option.some.injEq] at hj
        subst hj
        exact ref_serves.wide (ref_serves.frame (h.ref i b hi) ho.size (fun k hk => hs k (by rw [hk]; omega) (by rw [hk]; omega))) (hback _ (by omega) (by omega)) (hlt _ (by omega))
      · cases hj
    · rw [if_neg e] at hj
      exact ref_serves.wide (ref_serves.frame (h.ref j c hj) ho.size (fun k hk => hs k (by rw [hk]; omega) (by rw [hk]; omega))) (hback _ (by omega) (by omega)) (hlt _ (by omega))
  · intro k hk
    refine ⟨?_, hlt _ hk k rfl⟩
    unfold relabel at hk
    by_cases h1 : k < w.heap.size
    · rw [if_pos h1] at hk; exact (h.mine k hk).1
    · omega

/-- the document's index of book i has turned, and nothing else -/
theorem Inv.refStep (hC : Serves At 28 21 23 60 62 20 58 11) (hD : Drawn DP) (h : Inv At DP w B G D v bs own) (i : Nat) (b : Bk) (cr : List Do.Chg) (hi : bs[i]? = some b) (ho : Only (fun k => own k = 4 + 2 * i) w w') (hBw : B ≤ w.heap.size)
    (hn : ∃ N, RIdx w' b.r b.a b.b b.p cr N ∧ ∀ k, N k → own k = 4 + 2 * i ∨ w.heap.size ≤ k) : ∃ own', Inv At DP w' B G D v (bs.set i { b with cr := cr }) own' ∧ ∀ k, k < w.heap.size → own' k = own k := by
  obtain ⟨N, hN, hNk⟩ := hn
  have dec : DecidablePred N := fun _ => Classical.propDecidable _
  have hs : ∀ k, own k ≠ 0 → own k ≠ 4 + 2 * i → w'.heap[k]? = w.heap[k]? := fun k hk hne => ho.block k (h.mine k hk).2 hne
  have hold : ∀ k, own k ≠ 0 → relabel own w.heap.size (4 + 2 * i) N k = own k := fun k hk => relabel_old (h.mine k hk).2
  have hback : ∀ t, t ≠ 0 → t ≠ 4 + 2 * i → ∀ k, own k = t → relabel own w.heap.size (4 + 2 * i) N k = t := fun t ht _ k hk => by rw [hold k (by rw [hk]; exact ht)]; exact hk
  have hlt : ∀ t, t ≠ 0 → ∀ k, relabel own w.heap.size (4 + 2 * i) N k = t → k < w'.heap.size := fun t ht k hk => by
    unfold relabel at hk
    by_cases h1 : k < w.heap.size
    · exact Nat.lt_of_lt_of_le h1 ho.size
    · rw [if_neg h1] at hk
      by_cases h2 : N k
      · exact ref_serves.lt hN k h2
      · rw [if_neg h2] at hk; exact absurd hk.symm ht
  refine ⟨relabel own w.heap.size (4 + 2 * i) N, ⟨?_, ?_, ?_, ?_, ?_, ?_, ?_, ?_⟩, fun k hk => relabel_old hk⟩
  · exact (hs G (by rw [h.ownG]; decide) (by rw [h.ownG]; omega)).trans h.wo
  · have hr := row_same h.row (fun g hg => hs g (by rw [h.rowOwn g hg]; decide) (by rw [h.rowOwn g hg]; omega))
    rw [List.length_set]
    have : bks (bs.set i { b with cr := cr }) = bks bs := by
      have hget := hi
      clear hN hNk hs hold hback hlt ho hr h
      induction bs generalizing i with
      | nil => rfl
      | cons d r ih =>
        cases i with
        | zero => simp at hget; subst hget; rfl
        | succ i =>
          simp at hget
          show bk1 d ++ bks (r.set i { b with cr := cr }) = bk1 d ++ bks r
          rw [ih i hget hget]
    rw [this]; exact hr
  · intro g hg
    rw [hold g (by rw [h.rowOwn g hg]; decide)]; exact h.rowOwn g hg
  · rw [hold G (by rw [h.ownG]; decide)]; exact h.ownG
  · exact hD.wide (hD.frame h.dr ho.size (fun k hk => hs k (by rw [hk]; decide) (by rw [hk]; omega))) (hback 2 (by decide) (by omega)) (hlt 2 (by decide))
  · intro j c hj
    rw [List.getElem?_set] at hj
    by_cases e : i = j
    · subst e
      rw [if_pos rfl] at hj
      split at hj
      · simp only [Option.some.injEq] at hj
        subst hj
        exact hC.wide (hC.frame (h.code i b hi) ho.size (fun k hk => hs k (by rw [hk]; omega) (by rw [hk]; omega))) (hback _ (by omega) (by omega)) (hlt _ (by omega))
      · cases hj
    · rw [if_neg e] at hj
      exact hC.wide (hC.frame (h.code j c hj) ho.size (fun k hk => hs k (by rw [hk]; omega) (by rw [hk]; omega))) (hback _ (by omega) (by omega)) (hlt _ (by omega))
  · intro j c hj
    rw [List.getElem?_set] at hj
    by_cases e : i = j
    · subst e
      rw [if_pos rfl] at hj
      split at hj
      · simp only [Option.some.injEq] at hj
        subst hj
        refine ref_serves.wide hN (fun k hk => ?_) (hlt _ (by omega))
        unfold relabel
        rcases hNk k hk with h1 | h1
        · rw [if_pos (h.mine k (by rw [h1]; omega)).2]; exact h1
        · rw [if_neg (by omega), if_pos hk]
      · cases hj
    · rw [if_neg e] at hj
      exact ref_serves.wide (ref_serves.frame (h.ref j c hj) ho.size (fun k hk => hs k (by rw [hk]; omega) (by rw [hk]; omega))) (hback _ (by omega) (by omega)) (hlt _ (by omega))
  · intro k hk
    refine ⟨?_, hlt _ hk k rfl⟩
    unfold relabel at hk
    by_cases h1 : k < w.heap.size
    · rw [if_pos h1] at hk; exact (h.mine k hk).1
    · omega
end

end Go.Proofs.Ythkndfkkgncjfab

namespace Go.Proofs.Ythkndfkkgncjfab
open Go.RowKit
set_option maxRecDepth 100000

/-- a step as a value -/
def opV (o : OpV) : Value := .agg #[.int .i64 o.k, .int .i64 o.on, .int .i64 o.a, .int .i64 o.b, .int .i64 o.c, .string o.s, .int .i64 o.f0, .int .i64 o.f1, .int .i64 o.f2]
/-- a book as a value -/
def bkV (b : Bk) : Value := .agg #[.pointer (some ⟨b.x, 0, none⟩), .pointer (some ⟨b.r, 0, none⟩)]

section
variable {At : World → Nat → Int → Int → Int → List Do.Chg → (Nat → Prop) → Prop} {DP : World → Nat → (Nat → Prop) → Prop}
variable {B G D : Nat} {v : Value} {bs : List Bk}

set_option maxHeartbeats 1000000 in
theorem changed_ins (hC : Serves At 28 21 23 60 62 20 58 11) (hD : Drawn DP) (own : Nat → Nat) (i : Nat) (b : Bk) (o : OpV) (w : World) (h : Inv At DP w B G D v bs own) (hi : bs[i]? = some b) (hcx : b.cx = b.cr) (hl : b.cr.length ≤ 2000000000000) (hk : o.k = 2) (hs : o.s.size ≤ 9223372036854775807) (hB : B ≤ w.heap.size) :
    Calls Try.prog 38 #[bkV b, opV o] w fun e w' => e = .returned (.bool true) ∧ w.heap.size ≤ w'.heap.size ∧ Only (fun k => own k ≠ 0) w w' ∧ ∃ own', Inv At DP w' B G D v (bs.set i { b with cx := (insRes b.cr b.a o.s).2.2, cr := (insRes b.cr b.a o.s).2.2 }) own' := by
  obtain ⟨ok, oon, oa, ob, oc, os, f0, f1, f2⟩ := o
  dsimp only at hk hs ⊢
  subst hk
  unfold bkV opV
  dsimp only
  go_enter Try.func38, Try.ntmps38
  have y0 := World.news_of_block (Below.heap_alloc _ (.cells #[.int .i64 2, .int .i64 oon, .int .i64 oa, .int .i64 ob, .int .i64 oc, .string os, .int .i64 f0, .int .i64 f1, .int .i64 f2] 82) w.heap.size (by simp) |>.trans (heap_alloc_new w (.cells #[.pointer (some ⟨b.x, 0, none⟩), .pointer (some ⟨b.r, 0, none⟩)] 94)))
  have y1 := World.news_of_block (heap_alloc_new (w.alloc (.cells #[.pointer (some ⟨b.x, 0, none⟩), .pointer (some ⟨b.r, 0, none⟩)] 94)) (.cells #[.int .i64 2, .int .i64 oon, .int .i64 oa, .int .i64 ob, .int .i64 oc, .string os, .int .i64 f0, .int .i64 f1, .int .i64 f2] 82))
  have z1 := y0 1 _ rfl
  have z5 := y1 5 _ rfl
  clear y0 y1
  have hb0 : Below w.heap.size w ((w.alloc (.cells #[.pointer (some ⟨b.x, 0, none⟩), .pointer (some ⟨b.r, 0, none⟩)] 94)).alloc (.cells #[.int .i64 2, .int .i64 oon, .int .i64 oa, .int .i64 ob, .int .i64 oc, .string os, .int .i64 f0, .int .i64 f1, .int .i64 f2] 82)) := ((Below.refl _ _).alloc (Nat.le_refl _) _).alloc (by simp) _
  have hsz : ((w.alloc (.cells #[.pointer (some ⟨b.x, 0, none⟩), .pointer (some ⟨b.r, 0, none⟩)] 94)).alloc (.cells #[.int .i64 2, .int .i64 oon, .int .i64 oa, .int .i64 ob, .int .i64 oc, .string os, .int .i64 f0, .int .i64 f1, .int .i64 f2] 82)).heap.size = w.heap.size + 2 := by simp
  go_wp2_with fail
  have hI1 := h.quiet hC hD hb0
  generalize (w.alloc (.cells #[.pointer (some ⟨b.x, 0, none⟩), .pointer (some ⟨b.r, 0, none⟩)] 94)).alloc (.cells #[.int .i64 2, .int .i64 oon, .int .i64 oa, .int .i64 ob, .int .i64 oc, .string os, .int .i64 f0, .int .i64 f1, .int .i64 f2] 82) = w1 at *
  have h0 : ∀ k, w.heap.size ≤ k → own k = 0 := fun k hk => by
    cases hc : own k with
    | zero => rfl
    | succ n => have := (h.mine k (by rw [hc]; omega)).2; omega
  have hm0 := h.mine
  clear h
  refine (hC.insert os (by rw [hcx]; exact hl) hs (hI1.code i b hi)).mono ?_
  rintro e w2 ⟨rfl, ho2, hn2⟩
  have hi1 : i < bs.length := by
    rcases Nat.lt_or_ge i bs.length with h | h
    · exact h
    · rw [List.getElem?_eq_none h] at hi; cases hi
  have s2 := ho2.size
  have zz1 : w2.cell? ⟨w.heap.size, 1, none⟩ = some (.pointer (some ⟨b.r, 0, none⟩)) := by
    rw [ho2.cell (by omega) (by rw [h0 _ (Nat.le_refl _)]; omega)]; simpa [Addr.add] using z1
  have zz5 : w2.cell? ⟨w.heap.size + 1, 5, none⟩ = some (.string os) := by
    rw [ho2.cell (by omega) (by rw [h0 _ (by omega)]; omega)]; simpa [Addr.add] using z5
  obtain ⟨own2, hI2, hown2⟩ := hI1.codeStep hC hD i b _ hi ho2 (by omega) hn2
  have hi2 : (bs.set i { b with cx := (insRes b.cx b.a os).2.2 })[i]? = some { b with cx := (insRes b.cx b.a os).2.2 } := by rw [List.getElem?_set, if_pos rfl, if_pos hi1]
  have hR := ref_serves.insert os (cs := b.cr) hl hs (hI2.ref i { b with cx := (insRes b.cx b.a os).2.2 } hi2)
  have HR : Hid (Calls Try.prog 55 #[.pointer (some ⟨b.r, 0, none⟩), .string os] w2 fun e w' => e = .returned (.tuple #[.int .i64 (insRes b.cr b.a os).1, .int .i64 (insRes b.cr b.a os).2.1]) ∧ Only (fun k => own2 k = 4 + 2 * i) w2 w' ∧ ∃ N, RIdx w' b.r b.a b.b b.p (insRes b.cr b.a os).2.2 N ∧ ∀ k, N k → own2 k = 4 + 2 * i ∨ w2.heap.size ≤ k) := hR
  clear hR hn2 z1 z5
  rw [hcx] at hI2 hi2
  rw [hcx]
  generalize hr1 : (insRes b.cr b.a os).1 = q1 at *
  generalize hr2 : (insRes b.cr b.a os).2.1 = q2 at *
  clear hr1 hr2
  go_wp2_with fail
  refine HR.out.mono ?_
  rintro e w3 ⟨rfl, ho3, hn3⟩
  have s3 := ho3.size
  obtain ⟨own3, hI3, hown3⟩ := hI2.refStep hC hD i _ _ hi2 ho3 (by omega) hn3
  rw [List.set_set] at hI3
  have hall : Only (fun k => own k ≠ 0) w w3 := by
    refine ⟨ho3.os.trans (ho2.os.trans hb0.os), ho3.tape.trans (ho2.tape.trans hb0.tape), ho3.output.trans (ho2.output.trans hb0.output), by omega, fun k hk hf => ?_⟩
    have hk0 : own k = 0 := by simpa using hf
    rw [ho3.block k (by omega) (by rw [hown2 k (by omega), hk0]; omega), ho2.block k (by omega) (by rw [hk0]; omega), hb0.block k hk]
  clear HR hn3 zz1 zz5 hI1 hI2 ho2 ho3
  go_wp2_with fail
  refine (num_any _ _).mono ?_
  rintro e w4 ⟨rfl, hw4⟩; rw [hw4]; clear hw4
  go_wp2_with fail
  go_ret
  exact ⟨rfl, by omega, hall, own3, hI3⟩

set_option maxHeartbeats 1000000 in
theorem changed_del (hC : Serves At 28 21 23 60 62 20 58 11) (hD : Drawn DP) (own : Nat → Nat) (i : Nat) (b : Bk) (o : OpV) (w : World) (h : Inv At DP w B G D v bs own) (hi : bs[i]? = some b) (hcx : b.cx = b.cr) (hl : b.cr.length ≤ 2000000000000) (hk : (o.k == 2) = false) (hra : inR o.a) (hB : B ≤ w.heap.size) :
    Calls Try.prog 38 #[bkV b, opV o] w fun e w' => e = .returned (.bool true) ∧ w.heap.size ≤ w'.heap.size ∧ Only (fun k => own k ≠ 0) w w' ∧ ∃ own', Inv At DP w' B G D v (bs.set i { b with cx := (delRes b.cr o.a).2, cr := (delRes b.cr o.a).2 }) own' := by
  obtain ⟨ok, oon, oa, ob, oc, os, f0, f1, f2⟩ := o
  dsimp only at hk ⊢
  unfold bkV opV
  dsimp only
  go_enter Try.func38, Try.ntmps38
  have y0 := World.news_of_block (Below.heap_alloc _ (.cells #[.int .i64 ok, .int .i64 oon, .int .i64 oa, .int .i64 ob, .int .i64 oc, .string os, .int .i64 f0, .int .i64 f1, .int .i64 f2] 82) w.heap.size (by simp) |>.trans (heap_alloc_new w (.cells #[.pointer (some ⟨b.x, 0, none⟩), .pointer (some ⟨b.r, 0, none⟩)] 94)))
  have y1 := World.news_of_block (heap_alloc_new (w.alloc (.cells #[.pointer (some ⟨b.x, 0, none⟩), .pointer (some ⟨b.r, 0, none⟩)] 94)) (.cells #[.int .i64 ok, .int .i64 oon, .int .i64 oa, .int .i64 ob, .int .i64 oc, .string os, .int .i64 f0, .int .i64 f1, .int .i64 f2] 82))
  have z1 := y0 1 _ rfl
  have z5 := y1 2 _ rfl
  clear y0 y1
  have hb0 : Below w.heap.size w ((w.alloc (.cells #[.pointer (some ⟨b.x, 0, none⟩), .pointer (some ⟨b.r, 0, none⟩)] 94)).alloc (.cells #[.int .i64 ok, .int .i64 oon, .int .i64 oa, .int .i64 ob, .int .i64 oc, .string os, .int .i64 f0, .int .i64 f1, .int .i64 f2] 82)) := ((Below.refl _ _).alloc (Nat.le_refl _) _).alloc (by simp) _
  have hsz : ((w.alloc (.cells #[.pointer (some ⟨b.x, 0, none⟩), .pointer (some ⟨b.r, 0, none⟩)] 94)).alloc (.cells #[.int .i64 ok, .int .i64 oon, .int .i64 oa, .int .i64 ob, .int .i64 oc, .string os, .int .i64 f0, .int .i64 f1, .int .i64 f2] 82)).heap.size = w.heap.size + 2 := by simp
  go_wp2_with fail
  have hI1 := h.quiet hC hD hb0
  generalize (w.alloc (.cells #[.pointer (some ⟨b.x, 0, none⟩), .pointer (some ⟨b.r, 0, none⟩)] 94)).alloc (.cells #[.int .i64 ok, .int .i64 oon, .int .i64 oa, .int .i64 ob, .int .i64 oc, .string os, .int .i64 f0, .int .i64 f1, .int .i64 f2] 82) = w1 at *
  have h0 : ∀ k, w.heap.size ≤ k → own k = 0 := fun k hk => by
    cases hc : own k with
    | zero => rfl
    | succ n => have := (h.mine k (by rw [hc]; omega)).2; omega
  have hm0 := h.mine
  clear h
  refine (hC.delete oa (by rw [hcx]; exact hl) hra (hI1.code i b hi)).mono ?_
  rintro e w2 ⟨rfl, ho2, hn2⟩
  have hi1 : i < bs.length := by
    rcases Nat.lt_or_ge i bs.length with h | h
    · exact h
    · rw [List.getElem?_eq_none h] at hi; cases hi
  have s2 := ho2.size
  have zz1 : w2.cell? ⟨w.heap.size, 1, none⟩ = some (.pointer (some ⟨b.r, 0, none⟩)) := by
    rw [ho2.cell (by omega) (by rw [h0 _ (Nat.le_refl _)]; omega)]; simpa [Addr.add] using z1
  have zz5 : w2.cell? ⟨w.heap.size + 1, 2, none⟩ = some (.int .i64 oa) := by
    rw [ho2.cell (by omega) (by rw [h0 _ (by omega)]; omega)]; simpa [Addr.add] using z5
  obtain ⟨own2, hI2, hown2⟩ := hI1.codeStep hC hD i b _ hi ho2 (by omega) hn2
  have hi2 : (bs.set i { b with cx := (delRes b.cx oa).2 })[i]? = some { b with cx := (delRes b.cx oa).2 } := by rw [List.getElem?_set, if_pos rfl, if_pos hi1]
  have hR := ref_serves.delete oa (cs := b.cr) hl hra (hI2.ref i { b with cx := (delRes b.cx oa).2 } hi2)
  have HR : Hid (Calls Try.prog 56 #[.pointer (some ⟨b.r, 0, none⟩), .int .i64 oa] w2 fun e w' => e = .returned (.int .i64 (delRes b.cr oa).1) ∧ Only (fun k => own2 k = 4 + 2 * i) w2 w' ∧ ∃ N, RIdx w' b.r b.a b.b b.p (delRes b.cr oa).2 N ∧ ∀ k, N k → own2 k = 4 + 2 * i ∨ w2.heap.size ≤ k) := hR
  clear hR hn2 z1 z5
  rw [hcx] at hI2 hi2
  rw [hcx]
  generalize hr1 : (delRes b.cr oa).1 = q1 at *
  clear hr1
  go_wp2_with fail
  refine HR.out.mono ?_
  rintro e w3 ⟨rfl, ho3, hn3⟩
  have s3 := ho3.size
  obtain ⟨own3, hI3, hown3⟩ := hI2.refStep hC hD i _ _ hi2 ho3 (by omega) hn3
  rw [List.set_set] at hI3
  have hall : Only (fun k => own k ≠ 0) w w3 := by
    refine ⟨ho3.os.trans (ho2.os.trans hb0.os), ho3.tape.trans (ho2.tape.trans hb0.tape), ho3.output.trans (ho2.output.trans hb0.output), by omega, fun k hk hf => ?_⟩
    have hk0 : own k = 0 := by simpa using hf
    rw [ho3.block k (by omega) (by rw [hown2 k (by omega), hk0]; omega), ho2.block k (by omega) (by rw [hk0]; omega), hb0.block k hk]
  clear HR hn3 zz1 zz5 hI1 hI2 ho2 ho3
  go_wp2_with fail
  refine (num_any _ _).mono ?_
  rintro e w4 ⟨rfl, hw4⟩; rw [hw4]; clear hw4
  go_wp2_with fail
  go_ret
  exact ⟨rfl, by omega, hall, own3, hI3⟩

set_option maxHeartbeats 1000000 in
theorem asked_ext (hC : Serves At 28 21 23 60 62 20 58 11) (hD : Drawn DP) (own : Nat → Nat) (i : Nat) (b : Bk) (o : OpV) (w : World) (h : Inv At DP w B G D v bs own) (hi : bs[i]? = some b) (hcx : b.cx = b.cr) (hl : b.cr.length ≤ 2000000000000) (hk : o.k = 6) (hra : inR o.a) (hrb : inR o.b) (hrc : inR o.c) :
    Calls Try.prog 39 #[.pointer (some ⟨G, 0, none⟩), bkV b, opV o] w fun e w' => e = .returned (.bool true) ∧ Below w.heap.size w w' := by
  obtain ⟨ok, oon, oa, ob, oc, os, f0, f1, f2⟩ := o
  dsimp only at *
  subst hk
  unfold bkV opV
  dsimp only
  go_enter Try.func39, Try.ntmps39
  have y0 := World.news_of_block (Below.heap_alloc _ (.cells #[.int .i64 6, .int .i64 oon, .int .i64 oa, .int .i64 ob, .int .i64 oc, .string os, .int .i64 f0, .int .i64 f1, .int .i64 f2] 82) w.heap.size (by simp) |>.trans (heap_alloc_new w (.cells #[.pointer (some ⟨b.x, 0, none⟩), .pointer (some ⟨b.r, 0, none⟩)] 94)))
  have y1 := World.news_of_block (heap_alloc_new (w.alloc (.cells #[.pointer (some ⟨b.x, 0, none⟩), .pointer (some ⟨b.r, 0, none⟩)] 94)) (.cells #[.int .i64 6, .int .i64 oon, .int .i64 oa, .int .i64 ob, .int .i64 oc, .string os, .int .i64 f0, .int .i64 f1, .int .i64 f2] 82))
  have hb0 : Below w.heap.size w ((w.alloc (.cells #[.pointer (some ⟨b.x, 0, none⟩), .pointer (some ⟨b.r, 0, none⟩)] 94)).alloc (.cells #[.int .i64 6, .int .i64 oon, .int .i64 oa, .int .i64 ob, .int .i64 oc, .string os, .int .i64 f0, .int .i64 f1, .int .i64 f2] 82)) := ((Below.refl _ _).alloc (Nat.le_refl _) _).alloc (by simp) _
  have hsz : ((w.alloc (.cells #[.pointer (some ⟨b.x, 0, none⟩), .pointer (some ⟨b.r, 0, none⟩)] 94)).alloc (.cells #[.int .i64 6, .int .i64 oon, .int .i64 oa, .int .i64 ob, .int .i64 oc, .string os, .int .i64 f0, .int .i64 f1, .int .i64 f2] 82)).heap.size = w.heap.size + 2 := by simp
  have zp := y0 1 _ rfl
  have z2 := y1 2 _ rfl
  have z3 := y1 3 _ rfl
  have z4 := y1 4 _ rfl
  clear y0 y1
  go_wp2_with fail
  have hI1 := h.quiet hC hD hb0
  generalize (w.alloc (.cells #[.pointer (some ⟨b.x, 0, none⟩), .pointer (some ⟨b.r, 0, none⟩)] 94)).alloc (.cells #[.int .i64 6, .int .i64 oon, .int .i64 oa, .int .i64 ob, .int .i64 oc, .string os, .int .i64 f0, .int .i64 f1, .int .i64 f2] 82) = w1 at *
  refine (hC.extract oa ob oc (by rw [hcx]; exact hl) hra hrb hrc (hI1.code i b hi)).mono ?_
  rintro e w2 ⟨rfl, hb2⟩
  have s2 := hb2.size
  have zzp : w2.cell? ⟨w.heap.size, 1, none⟩ = some (.pointer (some ⟨b.r, 0, none⟩)) := by
    rw [hb2.cell (by show w.heap.size < w1.heap.size; omega)]; simpa [Addr.add] using zp
  have zz2 : w2.cell? ⟨w.heap.size + 1, 2, none⟩ = some (.int .i64 oa) := by
    rw [hb2.cell (by show w.heap.size + 1 < w1.heap.size; omega)]; simpa [Addr.add] using z2
  have zz3 : w2.cell? ⟨w.heap.size + 1, 3, none⟩ = some (.int .i64 ob) := by
    rw [hb2.cell (by show w.heap.size + 1 < w1.heap.size; omega)]; simpa [Addr.add] using z3
  have zz4 : w2.cell? ⟨w.heap.size + 1, 4, none⟩ = some (.int .i64 oc) := by
    rw [hb2.cell (by show w.heap.size + 1 < w1.heap.size; omega)]; simpa [Addr.add] using z4
  have hI2 := hI1.quiet hC hD hb2
  have HR : Hid (Calls Try.prog 61 #[.pointer (some ⟨b.r, 0, none⟩), .int .i64 oa, .int .i64 ob, .int .i64 oc] w2 fun e w' => e = .returned (.tuple #[.string (exRes (Do.there b.cr) oa ob oc).1, .int .i64 (exRes (Do.there b.cr) oa ob oc).2]) ∧ Below w2.heap.size w2 w') := ref_serves.extract oa ob oc hl hra hrb hrc (hI2.ref i b hi)
  clear hI1 hI2 h zp z2 z3 z4
  rw [hcx]
  generalize (exRes (Do.there b.cr) oa ob oc).1 = q1 at *
  generalize (exRes (Do.there b.cr) oa ob oc).2 = q2 at *
  go_wp2_with fail
  refine HR.out.mono ?_
  rintro e w3 ⟨rfl, hb3⟩
  clear HR zzp zz2 zz3 zz4
  go_wp2_with fail
  refine (num_any _ _).mono ?_
  rintro e w4 ⟨rfl, hw4⟩; rw [hw4]; clear hw4
  go_wp2_with fail
  go_ret
  exact ⟨rfl, (hb0.trans (hb2.mono (by omega))).trans (hb3.mono (by omega))⟩

set_option maxHeartbeats 1000000 in
theorem asked_cnt (hC : Serves At 28 21 23 60 62 20 58 11) (hD : Drawn DP) (own : Nat → Nat) (i : Nat) (b : Bk) (o : OpV) (w : World) (h : Inv At DP w B G D v bs own) (hi : bs[i]? = some b) (hcx : b.cx = b.cr) (hl : b.cr.length ≤ 2000000000000) (hk : o.k = 7) (hs : o.s.size ≤ 9223372036854775807) :
    Calls Try.prog 39 #[.pointer (some ⟨G, 0, none⟩), bkV b, opV o] w fun e w' => e = .returned (.bool true) ∧ Below w.heap.size w w' := by
  obtain ⟨ok, oon, oa, ob, oc, os, f0, f1, f2⟩ := o
  dsimp only at *
  subst hk
  unfold bkV opV
  dsimp only
  go_enter Try.func39, Try.ntmps39
  have y0 := World.news_of_block (Below.heap_alloc _ (.cells #[.int .i64 7, .int .i64 oon, .int .i64 oa, .int .i64 ob, .int .i64 oc, .string os, .int .i64 f0, .int .i64 f1, .int .i64 f2] 82) w.heap.size (by simp) |>.trans (heap_alloc_new w (.cells #[.pointer (some ⟨b.x, 0, none⟩), .pointer (some ⟨b.r, 0, none⟩)] 94)))
  have y1 := World.news_of_block (heap_alloc_new (w.alloc (.cells #[.pointer (some ⟨b.x, 0, none⟩), .pointer (some ⟨b.r, 0, none⟩)] 94)) (.cells #[.int .i64 7, .int .i64 oon, .int .i64 oa, .int .i64 ob, .int .i64 oc, .string os, .int .i64 f0, .int .i64 f1, .int .i64 f2] 82))
  have hb0 : Below w.heap.size w ((w.alloc (.cells #[.pointer (some ⟨b.x, 0, none⟩), .pointer (some ⟨b.r, 0, none⟩)] 94)).alloc (.cells #[.int .i64 7, .int .i64 oon, .int .i64 oa, .int .i64 ob, .int .i64 oc, .string os, .int .i64 f0, .int .i64 f1, .int .i64 f2] 82)) := ((Below.refl _ _).alloc (Nat.le_refl _) _).alloc (by simp) _
  have hsz : ((w.alloc (.cells #[.pointer (some ⟨b.x, 0, none⟩), .pointer (some ⟨b.r, 0, none⟩)] 94)).alloc (.cells #[.int .i64 7, .int .i64 oon, .int .i64 oa, .int .i64 ob, .int .i64 oc, .string os, .int .i64 f0, .int .i64 f1, .int .i64 f2] 82)).heap.size = w.heap.size + 2 := by simp
  have zp := y0 1 _ rfl
  have z5 := y1 5 _ rfl
  clear y0 y1
  go_wp2_with fail
  have hI1 := h.quiet hC hD hb0
  generalize (w.alloc (.cells #[.pointer (some ⟨b.x, 0, none⟩), .pointer (some ⟨b.r, 0, none⟩)] 94)).alloc (.cells #[.int .i64 7, .int .i64 oon, .int .i64 oa, .int .i64 ob, .int .i64 oc, .string os, .int .i64 f0, .int .i64 f1, .int .i64 f2] 82) = w1 at *
  refine (hC.count os (by rw [hcx]; exact hl) hs (hI1.code i b hi)).mono ?_
  rintro e w2 ⟨rfl, hb2⟩
  have s2 := hb2.size
  have zzp : w2.cell? ⟨w.heap.size, 1, none⟩ = some (.pointer (some ⟨b.r, 0, none⟩)) := by
    rw [hb2.cell (by show w.heap.size < w1.heap.size; omega)]; simpa [Addr.add] using zp
  have zz5 : w2.cell? ⟨w.heap.size + 1, 5, none⟩ = some (.string os) := by
    rw [hb2.cell (by show w.heap.size + 1 < w1.heap.size; omega)]; simpa [Addr.add] using z5
  have hI2 := hI1.quiet hC hD hb2
  have HR : Hid (Calls Try.prog 63 #[.pointer (some ⟨b.r, 0, none⟩), .string os] w2 fun e w' => e = .returned (.tuple #[.int .i64 (cntRes b.cr os).1, .int .i64 (cntRes b.cr os).2]) ∧ Below w2.heap.size w2 w') := ref_serves.count os hl hs (hI2.ref i b hi)
  clear hI1 hI2 h zp z5
  rw [hcx]
  generalize (cntRes b.cr os).1 = q1 at *
  generalize (cntRes b.cr os).2 = q2 at *
  go_wp2_with fail
  refine HR.out.mono ?_
  rintro e w3 ⟨rfl, hb3⟩
  clear HR zzp zz5
  go_wp2_with fail
  refine (num_any _ _).mono ?_
  rintro e w4 ⟨rfl, hw4⟩; rw [hw4]; clear hw4
  go_wp2_with fail
  go_ret
  exact ⟨rfl, (hb0.trans (hb2.mono (by omega))).trans (hb3.mono (by omega))⟩

set_option maxHeartbeats 1000000 in
theorem asked_ver (hC : Serves At 28 21 23 60 62 20 58 11) (hD : Drawn DP) (own : Nat → Nat) (i : Nat) (b : Bk) (o : OpV) (w : World) (h : Inv At DP w B G D v bs own) (hi : bs[i]? = some b) (hcx : b.cx = b.cr) (hl : b.cr.length ≤ 2000000000000) (hk : o.k = 4) :
    Calls Try.prog 39 #[.pointer (some ⟨G, 0, none⟩), bkV b, opV o] w fun e w' => e = .returned (.bool true) ∧ Below w.heap.size w w' := by
  obtain ⟨ok, oon, oa, ob, oc, os, f0, f1, f2⟩ := o
  dsimp only at *
  subst hk
  unfold bkV opV
  dsimp only
  go_enter Try.func39, Try.ntmps39
  have y0 := World.news_of_block (Below.heap_alloc _ (.cells #[.int .i64 4, .int .i64 oon, .int .i64 oa, .int .i64 ob, .int .i64 oc, .string os, .int .i64 f0, .int .i64 f1, .int .i64 f2] 82) w.heap.size (by simp) |>.trans (heap_alloc_new w (.cells #[.pointer (some ⟨b.x, 0, none⟩), .pointer (some ⟨b.r, 0, none⟩)] 94)))
  have y1 := World.news_of_block (heap_alloc_new (w.alloc (.cells #[.pointer (some ⟨b.x, 0, none⟩), .pointer (some ⟨b.r, 0, none⟩)] 94)) (.cells #[.int .i64 4, .int .i64 oon, .int .i64 oa, .int .i64 ob, .int .i64 oc, .string os, .int .i64 f0, .int .i64 f1, .int .i64 f2] 82))
  have hb0 : Below w.heap.size w ((w.alloc (.cells #[.pointer (some ⟨b.x, 0, none⟩), .pointer (some ⟨b.r, 0, none⟩)] 94)).alloc (.cells #[.int .i64 4, .int .i64 oon, .int .i64 oa, .int .i64 ob, .int .i64 oc, .string os, .int .i64 f0, .int .i64 f1, .int .i64 f2] 82)) := ((Below.refl _ _).alloc (Nat.le_refl _) _).alloc (by simp) _
  have hsz : ((w.alloc (.cells #[.pointer (some ⟨b.x, 0, none⟩), .pointer (some ⟨b.r, 0, none⟩)] 94)).alloc (.cells #[.int .i64 4, .int .i64 oon, .int .i64 oa, .int .i64 ob, .int .i64 oc, .string os, .int .i64 f0, .int .i64 f1, .int .i64 f2] 82)).heap.size = w.heap.size + 2 := by simp
  have zp := y0 1 _ rfl
  clear y0 y1
  go_wp2_with fail
  have hI1 := h.quiet hC hD hb0
  generalize (w.alloc (.cells #[.pointer (some ⟨b.x, 0, none⟩), .pointer (some ⟨b.r, 0, none⟩)] 94)).alloc (.cells #[.int .i64 4, .int .i64 oon, .int .i64 oa, .int .i64 ob, .int .i64 oc, .string os, .int .i64 f0, .int .i64 f1, .int .i64 f2] 82) = w1 at *
  refine (hC.version (by rw [hcx]; exact hl) (hI1.code i b hi)).mono ?_
  rintro e w2 ⟨rfl, hb2⟩
  have s2 := hb2.size
  have zzp : w2.cell? ⟨w.heap.size, 1, none⟩ = some (.pointer (some ⟨b.r, 0, none⟩)) := by
    rw [hb2.cell (by show w.heap.size < w1.heap.size; omega)]; simpa [Addr.add] using zp
  have hI2 := hI1.quiet hC hD hb2
  have HR : Hid (Calls Try.prog 57 #[.pointer (some ⟨b.r, 0, none⟩)] w2 fun e w' => e = .returned (.int .i64 (b.cr.length : Int)) ∧ Below w2.heap.size w2 w') := ref_serves.version hl (hI2.ref i b hi)
  clear hI1 hI2 h zp 
  rw [hcx]
  generalize b.cr.length = q1 at *
  go_wp2_with fail
  refine HR.out.mono ?_
  rintro e w3 ⟨rfl, hb3⟩
  clear HR zzp 
  go_wp2_with fail
  go_ret
  exact ⟨rfl, (hb0.trans (hb2.mono (by omega))).trans (hb3.mono (by omega))⟩

set_option maxHeartbeats 1000000 in
theorem asked_oth (b : Bk) (o : OpV) (w : World) (h4 : (o.k == 4) = false) (h5 : (o.k == 5) = false) (h6 : (o.k == 6) = false) (h7 : (o.k == 7) = false) (h8 : (o.k == 8) = false) (h9 : (o.k == 9) = false) :
    Calls Try.prog 39 #[.pointer (some ⟨G, 0, none⟩), bkV b, opV o] w fun e w' => e = .returned (.bool true) ∧ Below w.heap.size w w' := by
  obtain ⟨ok, oon, oa, ob, oc, os, f0, f1, f2⟩ := o
  dsimp only at *
  unfold bkV opV
  dsimp only
  go_enter Try.func39, Try.ntmps39
  go_wp2_with fail
  go_ret
  exact ⟨rfl, ((Below.refl _ _).alloc (Nat.le_refl _) _).alloc (by simp) _⟩
end

end Go.Proofs.Ythkndfkkgncjfab

namespace Go.Proofs.Ythkndfkkgncjfab
open Go.RowKit
set_option maxRecDepth 100000

theorem Try.info94 : (Try.prog.info? 94).map (fun i => (i.zero, i.size, i.bytes)) = some (some (.agg #[.pointer none, .pointer none]), 2, 16) := by kernel_rfl

section
variable {At : World → Nat → Int → Int → Int → List Do.Chg → (Nat → Prop) → Prop} {DP : World → Nat → (Nat → Prop) → Prop}
variable {B G D : Nat} {v : Value} {bs : List Bk}

/-- one book more -/
theorem Inv.opened (hC : Serves At 28 21 23 60 62 20 58 11) (hD : Drawn DP) {w w3 w4 : World} {own : Nat → Nat} {x r g cap : Nat} {a b p : Int} {FX FR : Nat → Prop} {o : Obj} (h : Inv At DP w B G D v bs own) (hB : B ≤ w.heap.size) (hb : Below w.heap.size w w3)
    (hx : At w3 x a b p [] FX) (hr : RIdx w3 r a b p [] FR) (hFX : ∀ k, FX k → w.heap.size ≤ k) (hFR : ∀ k, FR k → w.heap.size ≤ k) (hdis : ∀ k, FX k → ¬ FR k)
    (h1 : w4.ownsRow 0 94 2 (.slice (some ⟨g, 0, none⟩) (bs.length + 1) cap) (bs.length + 1) (bks bs ++ bk1 ⟨x, r, a, b, p, [], []⟩)) (h2 : (w3.alloc o).grownBy w4 v.ownBlock) (h3 : v.ownBlock = some g ∨ g = w3.heap.size + 1) (hg4 : g < w4.heap.size) :
    ∃ own', Inv At DP (w4.setCell ⟨G, 0, none⟩ (.slice (some ⟨g, 0, none⟩) (bs.length + 1) cap)) B G D (.slice (some ⟨g, 0, none⟩) (bs.length + 1) cap) (bs ++ [⟨x, r, a, b, p, [], []⟩]) own' ∧
      Only (fun k => own k ≠ 0) w (w4.setCell ⟨G, 0, none⟩ (.slice (some ⟨g, 0, none⟩) (bs.length + 1) cap)) := by
  have hGlt := (h.mine G (by rw [h.ownG]; decide)).2
  have hz := hb.size
  have hgw := h2.size
  have hsz3 : (w3.alloc o).heap.size = w3.heap.size + 1 := by simp
  have h0 : ∀ k, w.heap.size ≤ k → own k = 0 := fun k hk => by
    cases hc : own k with
    | zero => rfl
    | succ n => have := (h.mine k (by rw [hc]; omega)).2; omega
  have hrow3 : ∀ k, v.ownBlock = some k → own k = 1 := h.rowOwn
  -- what is neither the law's own nor new stays
  have hsame : ∀ k, k < w3.heap.size → own k ≠ 1 → (w4.setCell ⟨G, 0, none⟩ (.slice (some ⟨g, 0, none⟩) (bs.length + 1) cap)).heap[k]? = w3.heap[k]? := fun k hk hne => by
    rw [Below.heap_setCell w4 ⟨G, 0, none⟩ _ k (fun e => hne (by rw [e]; exact h.ownG)), h2.block k (by omega) (fun e => hne (hrow3 k e.symm)), Below.heap_alloc w3 o k hk]
  have hGv : v.ownBlock ≠ some G := fun e => by
    rcases h.row.2 with ⟨h2', _⟩ | ⟨g2, cap2, cur2, h2', _, hg2, _⟩
    · rw [h2'] at e; simp [Value.ownBlock] at e
    · rw [h2'] at e
      simp [Value.ownBlock] at e
      rw [e, h.wo] at hg2
      simp at hg2
  have hwo4 : w4.heap[G]? = some (.cells #[v, .pointer (some ⟨D, 0, none⟩)] 79 (0, 0)) := by
    rw [h2.block G (by omega) (fun e => hGv e.symm), Below.heap_alloc w3 o G (by omega), hb.block G hGlt, h.wo]
  have hgG : g ≠ G := fun e => by
    rcases h1.2 with ⟨h2', _⟩ | ⟨g2, cap2, cur2, h2', _, hg2, _⟩
    · simp at h2'
    · simp at h2'
      rw [← h2'.1, e, hwo4] at hg2
      simp at hg2
  have dX : DecidablePred FX := fun _ => Classical.propDecidable _
  have dR : DecidablePred FR := fun _ => Classical.propDecidable _
  let own' : Nat → Nat := fun k => if k < w.heap.size then own k else if FX k then 3 + 2 * bs.length else if FR k then 4 + 2 * bs.length else if k = g then 1 else 0
  have hown' : ∀ k, own' k = (if k < w.heap.size then own k else if FX k then 3 + 2 * bs.length else if FR k then 4 + 2 * bs.length else if k = g then 1 else 0) := fun _ => rfl
  have hold : ∀ k, k < w.heap.size → own' k = own k := fun k hk => by rw [hown' k, if_pos hk]
  have hback : ∀ t, t ≠ 0 → ∀ k, own k = t → own' k = t := fun t ht k hk => by rw [hold k (h.mine k (by rw [hk]; exact ht)).2]; exact hk
  have hlt5 : ∀ k, own' k ≠ 0 → k < w4.heap.size := fun k hk => by
    rw [hown' k] at hk
    by_cases c1 : k < w.heap.size
    · omega
    · rw [if_neg c1] at hk
      by_cases c2 : FX k
      · have := hC.lt hx k c2; omega
      · rw [if_neg c2] at hk
        by_cases c3 : FR k
        · have := ref_serves.lt hr k c3; omega
        · rw [if_neg c3] at hk
          by_cases c4 : k = g
          · omega
          · rw [if_neg c4] at hk; exact absurd rfl hk
  have hsz5 : (w4.setCell ⟨G, 0, none⟩ (.slice (some ⟨g, 0, none⟩) (bs.length + 1) cap)).heap.size = w4.heap.size := by simp
  refine ⟨own', ⟨?_, ?_, ?_, ?_, ?_, ?_, ?_, ?_⟩, ?_⟩
  · exact (heap_setCell_same w4 G 0 _ 79 _ hwo4).trans rfl
  · rw [List.length_append, bks_append]
    have e : bks [(⟨x, r, a, b, p, [], []⟩ : Bk)] = bk1 ⟨x, r, a, b, p, [], []⟩ := by simp [bks]
    rw [e]
    exact ownsRow_setCell_other h1 (by show some g ≠ some G; simpa using hgG) _
  · intro k hk
    simp [Value.ownBlock] at hk
    subst hk
    rcases h3 with h3 | h3
    · exact hback 1 (by decide) g (hrow3 g h3)
    · rw [hown' g, if_neg (by omega), if_neg (fun c => by have := hC.lt hx g c; omega), if_neg (fun c => by have := ref_serves.lt hr g c; omega), if_pos rfl]
  · exact hback 1 (by decide) G h.ownG
  · refine hD.wide (hD.frame h.dr (by rw [hsz5]; omega) (fun k hk => ?_)) (hback 2 (by decide)) (fun k hk => by rw [hsz5]; exact hlt5 k (by rw [hk]; decide))
    have hkl := (h.mine k (by rw [hk]; decide)).2
    rw [hsame k (by omega) (by rw [hk]; decide), hb.block k hkl]
  · intro i c hi
    rw [List.getElem?_append] at hi
    by_cases c1 : i < bs.length
    · rw [if_pos c1] at hi
      refine hC.wide (hC.frame (h.code i c hi) (by rw [hsz5]; omega) (fun k hk => ?_)) (hback _ (by omega)) (fun k hk => by rw [hsz5]; exact hlt5 k (by rw [hk]; omega))
      have hkl := (h.mine k (by rw [hk]; omega)).2
      rw [hsame k (by omega) (by rw [hk]; omega), hb.block k hkl]
    · rw [if_neg c1] at hi
      have hi0 : i = bs.length := by
        rcases Nat.lt_or_ge (i - bs.length) 1 with h5 | h5
        · omega
        · rw [List.getElem?_eq_none (by simpa using h5)] at hi; cases hi
      subst hi0
      rw [Nat.sub_self] at hi
      simp at hi
      subst hi
      refine hC.wide (hC.frame hx (by rw [hsz5]; omega) (fun k hk => ?_)) (fun k hk => ?_) (fun k hk => by rw [hsz5]; exact hlt5 k (by rw [hk]; omega))
      · rw [hsame k (hC.lt hx k hk) (by rw [h0 k (hFX k hk)]; decide)]
      · show own' k = _; rw [hown' k, if_neg (by have := hFX k hk; omega), if_pos hk]
  · intro i c hi
    rw [List.getElem?_append] at hi
    by_cases c1 : i < bs.length
    · rw [if_pos c1] at hi
      refine ref_serves.wide (ref_serves.frame (h.ref i c hi) (by rw [hsz5]; omega) (fun k hk => ?_)) (hback _ (by omega)) (fun k hk => by rw [hsz5]; exact hlt5 k (by rw [hk]; omega))
      have hkl := (h.mine k (by rw [hk]; omega)).2
      rw [hsame k (by omega) (by rw [hk]; omega), hb.block k hkl]
    · rw [if_neg c1] at hi
      have hi0 : i = bs.length := by
        rcases Nat.lt_or_ge (i - bs.length) 1 with h5 | h5
        · omega
        · rw [List.getElem?_eq_none (by simpa using h5)] at hi; cases hi
      subst hi0
      rw [Nat.sub_self] at hi
      simp at hi
      subst hi
      refine ref_serves.wide (ref_serves.frame hr (by rw [hsz5]; omega) (fun k hk => ?_)) (fun k hk => ?_) (fun k hk => by rw [hsz5]; exact hlt5 k (by rw [hk]; omega))
      · rw [hsame k (ref_serves.lt hr k hk) (by rw [h0 k (hFR k hk)]; decide)]
      · show own' k = _; rw [hown' k, if_neg (by have := hFR k hk; omega), if_neg (fun c => hdis k c hk), if_pos hk]
  · intro k hk
    refine ⟨?_, by rw [hsz5]; exact hlt5 k hk⟩
    by_cases c1 : k < w.heap.size
    · rw [hold k c1] at hk; exact (h.mine k hk).1
    · omega
  · refine ⟨?_, ?_, ?_, by rw [hsz5]; omega, fun k hk hf => ?_⟩
    · exact (show (w4.setCell ⟨G, 0, none⟩ (.slice (some ⟨g, 0, none⟩) (bs.length + 1) cap)).os = w4.os from rfl).trans (h2.os.trans hb.os)
    · exact (show (w4.setCell ⟨G, 0, none⟩ (.slice (some ⟨g, 0, none⟩) (bs.length + 1) cap)).tape = w4.tape from rfl).trans (h2.tape.trans hb.tape)
    · exact (show (w4.setCell ⟨G, 0, none⟩ (.slice (some ⟨g, 0, none⟩) (bs.length + 1) cap)).output = w4.output from rfl).trans (h2.output.trans hb.output)
    · have hk0 : own k = 0 := by simpa using hf
      rw [hsame k (by omega) (by rw [hk0]; decide), hb.block k hk]
end

end Go.Proofs.Ythkndfkkgncjfab

namespace Go.Proofs.Ythkndfkkgncjfab
open Go.RowKit
set_option maxRecDepth 100000

section
variable {At : World → Nat → Int → Int → Int → List Do.Chg → (Nat → Prop) → Prop} {DP : World → Nat → (Nat → Prop) → Prop}
variable {B G D : Nat} {v : Value} {bs : List Bk}

set_option maxHeartbeats 1000000 in
theorem opened_no (hC : Serves At 28 21 23 60 62 20 58 11) (a b p : Int) (w : World) (hn : ¬ okc a b p) :
    Calls Try.prog 24 #[.pointer (some ⟨G, 0, none⟩), .agg #[.int .i64 a, .int .i64 b, .int .i64 p]] w fun e w' => e = .returned (.bool true) ∧ Below w.heap.size w w' := by
  have y := World.news_of_block (heap_alloc_new w (.cells #[.int .i64 a, .int .i64 b, .int .i64 p] 23))
  have hb0 : Below w.heap.size w (w.alloc (.cells #[.int .i64 a, .int .i64 b, .int .i64 p] 23)) := (Below.refl _ _).alloc (Nat.le_refl _) _
  have hsz : (w.alloc (.cells #[.int .i64 a, .int .i64 b, .int .i64 p] 23)).heap.size = w.heap.size + 1 := by simp
  have z0 := y 0 _ rfl
  have z1 := y 1 _ rfl
  have z2 := y 2 _ rfl
  clear y
  go_enter Try.func24, Try.ntmps24
  go_wp2_with fail
  generalize w.alloc (.cells #[.int .i64 a, .int .i64 b, .int .i64 p] 23) = w1 at *
  refine (hC.new_no a b p w1 hn).mono ?_
  rintro e w2 ⟨rfl, hb2⟩
  have s2 := hb2.size
  have x0 : w2.cell? ⟨w.heap.size, 0, none⟩ = some (.int .i64 a) := by rw [hb2.cell (by show w.heap.size < w1.heap.size; omega)]; simpa [Addr.add] using z0
  have x1 : w2.cell? ⟨w.heap.size, 1, none⟩ = some (.int .i64 b) := by rw [hb2.cell (by show w.heap.size < w1.heap.size; omega)]; simpa [Addr.add] using z1
  have x2 : w2.cell? ⟨w.heap.size, 2, none⟩ = some (.int .i64 p) := by rw [hb2.cell (by show w.heap.size < w1.heap.size; omega)]; simpa [Addr.add] using z2
  clear z0 z1 z2
  go_wp2_with fail
  refine (ref_serves.new_no a b p w2 hn).mono ?_
  rintro e w3 ⟨rfl, hb3⟩
  clear x0 x1 x2
  go_wp2_with fail
  refine (num_any _ _).mono ?_
  rintro e w4 ⟨rfl, hw4⟩; rw [hw4]; clear hw4
  go_wp2_with fail
  go_ret
  exact ⟨rfl, (hb0.trans (hb2.mono (by omega))).trans (hb3.mono (by omega))⟩

set_option maxHeartbeats 1000000 in
theorem opened_ok (hC : Serves At 28 21 23 60 62 20 58 11) (hD : Drawn DP) (own : Nat → Nat) (a b p : Int) (w : World) (hn : okc a b p) (h : Inv At DP w B G D v bs own) (hB : B ≤ w.heap.size) (hl : bs.length ≤ 2000000000000) :
    Calls Try.prog 24 #[.pointer (some ⟨G, 0, none⟩), .agg #[.int .i64 a, .int .i64 b, .int .i64 p]] w fun e w' => e = .returned (.bool true) ∧ ∃ x r v' own', Inv At DP w' B G D v' (bs ++ [⟨x, r, a, b, p, [], []⟩]) own' ∧ Only (fun k => own k ≠ 0) w w' := by
  obtain ⟨i0, hi, hz0, hz1, hz2⟩ := info_parts Try.info94
  have y := World.news_of_block (heap_alloc_new w (.cells #[.int .i64 a, .int .i64 b, .int .i64 p] 23))
  have hb0 : Below w.heap.size w (w.alloc (.cells #[.int .i64 a, .int .i64 b, .int .i64 p] 23)) := (Below.refl _ _).alloc (Nat.le_refl _) _
  have hsz : (w.alloc (.cells #[.int .i64 a, .int .i64 b, .int .i64 p] 23)).heap.size = w.heap.size + 1 := by simp
  have z0 := y 0 _ rfl
  have z1 := y 1 _ rfl
  have z2 := y 2 _ rfl
  clear y
  go_enter Try.func24, Try.ntmps24
  go_wp2_with fail
  generalize w.alloc (.cells #[.int .i64 a, .int .i64 b, .int .i64 p] 23) = w1 at *
  refine (hC.new_ok a b p w1 hn).mono ?_
  rintro e w2 ⟨x, FX, rfl, hx, hFX, hb2⟩
  have s2 := hb2.size
  have x0 : w2.cell? ⟨w.heap.size, 0, none⟩ = some (.int .i64 a) := by rw [hb2.cell (by show w.heap.size < w1.heap.size; omega)]; simpa [Addr.add] using z0
  have x1 : w2.cell? ⟨w.heap.size, 1, none⟩ = some (.int .i64 b) := by rw [hb2.cell (by show w.heap.size < w1.heap.size; omega)]; simpa [Addr.add] using z1
  have x2 : w2.cell? ⟨w.heap.size, 2, none⟩ = some (.int .i64 p) := by rw [hb2.cell (by show w.heap.size < w1.heap.size; omega)]; simpa [Addr.add] using z2
  clear z0 z1 z2
  go_wp2_with fail
  refine (ref_serves.new_ok a b p w2 hn).mono ?_
  rintro e w3 ⟨r, FR, rfl, hr, hFR, hb3⟩
  have s3 := hb3.size
  have hx3 : At w3 x a b p [] FX := hC.frame hx hb3.size (fun k hk => hb3.block k (hC.lt hx k hk))
  have hb03 : Below w.heap.size w w3 := (hb0.trans (hb2.mono (by omega))).trans (hb3.mono (by omega))
  have hI3 := h.quiet hC hD hb03
  have hdis : ∀ k, FX k → ¬ FR k := fun k hk hf => by have h1 := hC.lt hx k hk; have h2 := hFR k hf; omega
  have hFX' : ∀ k, FX k → w.heap.size ≤ k := fun k hk => by have := hFX k hk; omega
  have hFR' : ∀ k, FR k → w.heap.size ≤ k := fun k hk => by have := hFR k hk; omega
  have HX : Hid (At w3 x a b p [] FX ∧ RIdx w3 r a b p [] FR ∧ (∀ k, FX k → ¬ FR k) ∧ (∀ k, FX k → w.heap.size ≤ k) ∧ (∀ k, FR k → w.heap.size ≤ k)) := ⟨hx3, hr, hdis, hFX', hFR'⟩
  have HI : Hid (Inv At DP w B G D v bs own) := h
  have HB : Hid (Below w.heap.size w w3) := hb03
  clear x0 x1 x2 hx hx3 hr hdis hFX hFR hFX' hFR' h hb0 hb2 hb3 hb03
  have cG : w3.cell? ⟨G, 0, none⟩ = some v := by rw [cell_of_row w3 G 0 _ 79 (0, 0) hI3.wo]; rfl
  have hrow := hI3.row
  have hwo := hI3.wo
  have hGl := lt_of_block hwo
  have hGv : v.ownBlock ≠ some G := fun e => by
    rcases hrow.2 with ⟨h2', _⟩ | ⟨g2, cap2, cur2, h2', _, hg2, _⟩
    · rw [h2'] at e; simp [Value.ownBlock] at e
    · rw [h2'] at e
      simp [Value.ownBlock] at e
      rw [e, hwo] at hg2
      simp at hg2
  obtain ⟨av, capv, hv⟩ : ∃ av capv, v = .slice av bs.length capv := by
    rcases hrow.2 with ⟨rfl, h0⟩ | ⟨g, cap, cur, rfl, _⟩
    · exact ⟨none, 0, by rw [h0]⟩
    · exact ⟨_, cap, rfl⟩
  subst hv
  clear hI3
  go_wp2_with fail
  refine (num_any _ _).mono ?_
  rintro e w4 ⟨rfl, hw4⟩; rw [hw4]; clear hw4
  go_wp2_with (at_builtin; refine wpList_append_lies _ rfl _ _ 77 rfl 0 94 i0 (.agg #[.pointer none, .pointer none]) 2 16 Try.underlying77 hi hz0 hz1 hz2 rfl (by decide) _ _ _ rfl (World.ownsRow.alloc hrow _) ⟨w3.heap.size, 0, none⟩ 1 1 (bk1 ⟨x, r, a, b, p, [], []⟩) rfl rfl (World.news_of_block (cs := #[.pointer (some ⟨x, 0, none⟩), .pointer (some ⟨r, 0, none⟩)]) (heap_alloc_new w3 _)) (by intro u hu2; simp [bk1] at hu2; rcases hu2 with rfl | rfl <;> rfl) (by decide) (by unfold maxLen; omega) (by omega) (Nat.zero_le _) (w3.heap.size + 1) (by simp) ?_; intro g' cap' w5 hown5 hgrow5 hat5 hlt5; have c5 := (hgrow5.block G (by simp; omega) (fun e => hGv e.symm)).trans ((Below.heap_alloc w3 _ G hGl).trans hwo); have cG5 : w5.cell? ⟨G, 0, none⟩ = some (.slice av bs.length capv) := (by rw [cell_of_row w5 G 0 _ 79 (0, 0) c5]; rfl); have fG5 : w5.frozen? ⟨G, 0, none⟩ = false := frozen_of_row w5 G 0 _ 79 c5)
  obtain ⟨own', hI, hO⟩ := Inv.opened hC hD HI.out hB HB.out HX.out.1 HX.out.2.1 HX.out.2.2.2.1 HX.out.2.2.2.2 HX.out.2.2.1 hown5 hgrow5 hat5 hlt5
  go_ret
  exact ⟨rfl, x, r, _, own', hI, hO⟩

/-- pick gives one of n -/
theorem pick_lt (c : Int) (n : Nat) (hn : 0 < n) : ∃ k : Nat, k < n ∧ ((if c < 0 then -(c + 1) else c).tmod n) = (k : Int) := by
  have h0 : 0 ≤ (if c < 0 then -(c + 1) else c) := by split <;> omega
  generalize (if c < 0 then -(c + 1) else c) = d at *
  obtain ⟨m, rfl⟩ := Int.eq_ofNat_of_zero_le h0
  refine ⟨m % n, Nat.mod_lt _ hn, ?_⟩
  rw [Int.tmod_eq_emod_of_nonneg (by omega)]; rfl

set_option maxHeartbeats 400000 in
theorem pick_any (c : Int) (n : Nat) (w : World) (hc : inR c) (hn : 0 < n) (hn2 : n ≤ 2000000000000) :
    Calls Try.prog 37 #[.int .i64 c, .int .i64 (n : Int)] w fun e w' => ∃ k : Nat, k < n ∧ e = .returned (.int .i64 (k : Int)) ∧ w' = w := by
  obtain ⟨hc1, hc2⟩ := hc
  obtain ⟨k, hk, he⟩ := pick_lt c n hn
  by_cases h : c < 0
  · rw [if_pos h] at he
    go_enter Try.func37, Try.ntmps37
    go_wp2
    go_ret
    exact ⟨k, hk, rfl, rfl⟩
  · rw [if_neg h] at he
    go_enter Try.func37, Try.ntmps37
    go_wp2
    go_ret
    exact ⟨k, hk, rfl, rfl⟩
end

end Go.Proofs.Ythkndfkkgncjfab

namespace Go.Proofs.Ythkndfkkgncjfab
open Go.RowKit
set_option maxRecDepth 100000

/-- a drawer in which nothing lies -/
def DNone (w : World) (D : Nat) (F : Nat → Prop) : Prop :=
  w.heap[D]? = some (.cells #[.int .i64 0, .slice none 0 0, .slice none 0 0, .slice none 0 0, .slice none 0 0] 76 (0, 0)) ∧ F D ∧ ∀ k, F k → k < w.heap.size

set_option maxHeartbeats 400000 in
theorem looks_none (D : Nat) (w : World) (hd : w.heap[D]? = some (.cells #[.int .i64 0, .slice none 0 0, .slice none 0 0, .slice none 0 0, .slice none 0 0] 76 (0, 0))) :
    Calls Try.prog 26 #[.pointer (some ⟨D, 0, none⟩)] w fun e w' => e = .returned (.bool true) ∧ Below w.heap.size w w' := by
  have c1 : w.cell? ⟨D, 1, none⟩ = some (.slice none 0 0) := by rw [cell_of_row w D 1 _ 76 (0, 0) hd]; rfl
  have c2 : w.cell? ⟨D, 2, none⟩ = some (.slice none 0 0) := by rw [cell_of_row w D 2 _ 76 (0, 0) hd]; rfl
  go_enter Try.func26, Try.ntmps26
  go_wp2
  refine wp_loop_rounds 1 ?_
  rw [rounds_succ]
  go_wp2
  refine wp_loop_rounds 1 ?_
  rw [rounds_succ]
  go_wp2
  go_ret
  exact ⟨rfl, Below.refl _ _⟩

theorem drawn_none : Drawn DNone where
  lt h := h.2.2
  frame h hs hf := ⟨(hf _ h.2.1).trans h.1, h.2.1, fun k hk => Nat.lt_of_lt_of_le (h.2.2 k hk) hs⟩
  wide h hfg hg := ⟨h.1, hfg _ h.2.1, hg⟩
  looks h := looks_none _ _ h.1

end Go.Proofs.Ythkndfkkgncjfab

namespace Go.Proofs.Ythkndfkkgncjfab
open Go.RowKit
set_option maxRecDepth 100000

section
variable {At : World → Nat → Int → Int → Int → List Do.Chg → (Nat → Prop) → Prop} {DP : World → Nat → (Nat → Prop) → Prop}
variable {B G D : Nat} {v : Value} {bs : List Bk}

/-- a step's cells, behind its coming in -/
def opObj (o : OpV) : Obj := .cells #[.int .i64 o.k, .int .i64 o.on, .int .i64 o.a, .int .i64 o.b, .int .i64 o.c, .string o.s, .int .i64 o.f0, .int .i64 o.f1, .int .i64 o.f2] 82

set_option maxHeartbeats 1000000 in
theorem step_new (Q : Ending → World → Prop) (o : OpV) (w : World) (hk : o.k = 1) (hc : Calls Try.prog 24 #[.pointer (some ⟨G, 0, none⟩), .agg #[.int .i64 o.f0, .int .i64 o.f1, .int .i64 o.f2]] (w.alloc (opObj o)) fun e w' => e = .returned (.bool true) ∧ Q e w') :
    Calls Try.prog 25 #[.pointer (some ⟨G, 0, none⟩), opV o] w fun e w' => e = .returned (.bool true) ∧ Q e w' := by
  obtain ⟨ok, oon, oa, ob, oc, os, f0, f1, f2⟩ := o
  unfold opObj at hc
  dsimp only at *
  subst hk
  unfold opV
  dsimp only
  have y := World.news_of_block (heap_alloc_new w (.cells #[.int .i64 1, .int .i64 oon, .int .i64 oa, .int .i64 ob, .int .i64 oc, .string os, .int .i64 f0, .int .i64 f1, .int .i64 f2] 82))
  have y0 := y 0 _ rfl
  have y6 := y 6 _ rfl
  have y7 := y 7 _ rfl
  have y8 := y 8 _ rfl
  clear y
  go_enter Try.func25, Try.ntmps25
  go_wp2_with fail
  refine hc.mono ?_
  rintro e w2 ⟨rfl, hq⟩
  go_wp2_with fail
  go_ret
  exact ⟨rfl, hq⟩

set_option maxHeartbeats 1000000 in
theorem step_none (o : OpV) (w : World) (a0 : Option Addr) (cap : Nat) (h1 : (o.k == 1) = false) (h10 : (o.k == 10) = false) (h11 : (o.k == 11) = false) (hw : w.cell? ⟨G, 0, none⟩ = some (.slice a0 0 cap)) (hG : G < w.heap.size) :
    Calls Try.prog 25 #[.pointer (some ⟨G, 0, none⟩), opV o] w fun e w' => e = .returned (.bool true) ∧ Below w.heap.size w w' := by
  obtain ⟨ok, oon, oa, ob, oc, os, f0, f1, f2⟩ := o
  dsimp only at *
  unfold opV
  dsimp only
  have y := World.news_of_block (heap_alloc_new w (.cells #[.int .i64 ok, .int .i64 oon, .int .i64 oa, .int .i64 ob, .int .i64 oc, .string os, .int .i64 f0, .int .i64 f1, .int .i64 f2] 82))
  have y0 := y 0 _ rfl
  have y1 := y 1 _ rfl
  clear y
  have hb : Below w.heap.size w (w.alloc (.cells #[.int .i64 ok, .int .i64 oon, .int .i64 oa, .int .i64 ob, .int .i64 oc, .string os, .int .i64 f0, .int .i64 f1, .int .i64 f2] 82)) := (Below.refl _ _).alloc (Nat.le_refl _) _
  have cG := (hb.cell (p := ⟨G, 0, none⟩) hG).trans hw
  go_enter Try.func25, Try.ntmps25
  go_wp2_with fail
  go_ret
  exact ⟨rfl, hb⟩

theorem pick_det (c : Int) (n : Nat) (hc : inR c) (hn : 0 < n) (hn2 : n ≤ 2000000000000) :
    ∃ k : Nat, k < n ∧ ∀ w, Calls Try.prog 37 #[.int .i64 c, .int .i64 (n : Int)] w fun e w' => e = .returned (.int .i64 (k : Int)) ∧ w' = w := by
  obtain ⟨hc1, hc2⟩ := hc
  obtain ⟨k, hk, he⟩ := pick_lt c n hn
  refine ⟨k, hk, fun w => ?_⟩
  by_cases h : c < 0
  · rw [if_pos h] at he
    go_enter Try.func37, Try.ntmps37
    go_wp2
    go_ret
    exact ⟨rfl, rfl⟩
  · rw [if_neg h] at he
    go_enter Try.func37, Try.ntmps37
    go_wp2
    go_ret
    exact ⟨rfl, rfl⟩

set_option maxHeartbeats 2000000 in
theorem step_at (Q : Ending → World → Prop) (o : OpV) (w : World) (g n cap : Nat) (h1 : (o.k == 1) = false) (h10 : (o.k == 10) = false) (h11 : (o.k == 11) = false) (hon : inR o.on) (hw : w.cell? ⟨G, 0, none⟩ = some (.slice (some ⟨g, 0, none⟩) n cap)) (hG : G < w.heap.size) (hg : g < w.heap.size)
    (hn : 0 < n) (hn2 : n ≤ 2000000000000)
    (hbk : ∀ k : Nat, k < n → ∃ x r : Nat, w.cell? ⟨g, k * 2, none⟩ = some (.pointer (some ⟨x, 0, none⟩)) ∧ w.cell? ⟨g, k * 2 + 1, none⟩ = some (.pointer (some ⟨r, 0, none⟩)) ∧
      ∀ w1, Below w.heap.size w w1 → Calls Try.prog (if o.k = 2 ∨ o.k = 3 then 38 else 39) (if o.k = 2 ∨ o.k = 3 then #[.agg #[.pointer (some ⟨x, 0, none⟩), .pointer (some ⟨r, 0, none⟩)], opV o] else #[.pointer (some ⟨G, 0, none⟩), .agg #[.pointer (some ⟨x, 0, none⟩), .pointer (some ⟨r, 0, none⟩)], opV o]) w1 fun e w' => e = .returned (.bool true) ∧ Q e w') :
    Calls Try.prog 25 #[.pointer (some ⟨G, 0, none⟩), opV o] w fun e w' => e = .returned (.bool true) ∧ Q e w' := by
  obtain ⟨ok, oon, oa, ob, oc, os, f0, f1, f2⟩ := o
  dsimp only at *
  unfold opV at *
  dsimp only at *
  have y := World.news_of_block (heap_alloc_new w (.cells #[.int .i64 ok, .int .i64 oon, .int .i64 oa, .int .i64 ob, .int .i64 oc, .string os, .int .i64 f0, .int .i64 f1, .int .i64 f2] 82))
  have y0 := y 0 _ rfl
  have y1 := y 1 _ rfl
  have y2 := y 2 _ rfl
  have y3 := y 3 _ rfl
  have y4 := y 4 _ rfl
  have y5 := y 5 _ rfl
  have y6 := y 6 _ rfl
  have y7 := y 7 _ rfl
  have y8 := y 8 _ rfl
  clear y
  have hb : Below w.heap.size w (w.alloc (.cells #[.int .i64 ok, .int .i64 oon, .int .i64 oa, .int .i64 ob, .int .i64 oc, .string os, .int .i64 f0, .int .i64 f1, .int .i64 f2] 82)) := (Below.refl _ _).alloc (Nat.le_refl _) _
  have cG := (hb.cell (p := ⟨G, 0, none⟩) hG).trans hw
  have hn0 : ((n : Int) == 0) = false := by simp; omega
  go_enter Try.func25, Try.ntmps25
  go_wp2_with fail
  have hsz : (w.alloc (.cells #[.int .i64 ok, .int .i64 oon, .int .i64 oa, .int .i64 ob, .int .i64 oc, .string os, .int .i64 f0, .int .i64 f1, .int .i64 f2] 82)).heap.size = w.heap.size + 1 := by simp
  generalize w.alloc (.cells #[.int .i64 ok, .int .i64 oon, .int .i64 oa, .int .i64 ob, .int .i64 oc, .string os, .int .i64 f0, .int .i64 f1, .int .i64 f2] 82) = w1 at *
  obtain ⟨k, hk, hp⟩ := pick_det oon n hon hn hn2
  obtain ⟨x, r, hx, hr, hcall⟩ := hbk k hk
  have cx := (hb.cell (p := ⟨g, k * 2, none⟩) hg).trans hx
  have cr := (hb.cell (p := ⟨g, k * 2 + 1, none⟩) hg).trans hr
  have y1' : w1.cell? ⟨w.heap.size, 1, none⟩ = some (.int .i64 oon) := by simpa [Addr.add] using y1
  have e1 := World.new_ne w1 _ cG
  have e2 := World.new_ne w1 _ cx
  have e3 := World.new_ne w1 _ cr
  have e4 := World.new_ne w1 _ y1'
  have hkn : (k : Int) < n := by omega
  clear hbk hw hx hr
  have zz := World.news_of_block (heap_alloc_new w1 (.cells #[.pointer (some ⟨x, 0, none⟩), .pointer (some ⟨r, 0, none⟩)] 94))
  have zx : ((w1.alloc (.cells #[.pointer (some ⟨x, 0, none⟩), .pointer (some ⟨r, 0, none⟩)] 94)).drew).cell? ⟨w.heap.size + 1, 0, none⟩ = some (.pointer (some ⟨x, 0, none⟩)) := by have := zz 0 _ rfl; simpa [Addr.add, hsz, World.cell?_drew] using this
  have zr : ((w1.alloc (.cells #[.pointer (some ⟨x, 0, none⟩), .pointer (some ⟨r, 0, none⟩)] 94)).drew).cell? ⟨w.heap.size + 1, 1, none⟩ = some (.pointer (some ⟨r, 0, none⟩)) := by have := zz 1 _ rfl; simpa [Addr.add, hsz, World.cell?_drew] using this
  have hb1 : Below w1.heap.size w1 ((w1.alloc (.cells #[.pointer (some ⟨x, 0, none⟩), .pointer (some ⟨r, 0, none⟩)] 94)).drew) := ((Below.refl _ _).alloc (Nat.le_refl _) _).drew
  have ys : ∀ (j : Nat) (u : Value), w1.cell? ((⟨w.heap.size, 0, none⟩ : Addr).add j) = some u → ((w1.alloc (.cells #[.pointer (some ⟨x, 0, none⟩), .pointer (some ⟨r, 0, none⟩)] 94)).drew).cell? ⟨w.heap.size, j, none⟩ = some u := fun j u hu => by
    rw [hb1.cell (by show w.heap.size < w1.heap.size; omega)]; by_cases hj : j = 0
    · subst hj; simpa [Addr.add] using hu
    · simpa [Addr.add, hj] using hu
  have u0 := ys 0 _ y0
  have u1 := ys 1 _ y1
  have u2 := ys 2 _ y2
  have u3 := ys 3 _ y3
  have u4 := ys 4 _ y4
  have u5 := ys 5 _ y5
  have u6 := ys 6 _ y6
  have u7 := ys 7 _ y7
  have u8 := ys 8 _ y8
  have HB2 : Hid (Below w.heap.size w ((w1.alloc (.cells #[.pointer (some ⟨x, 0, none⟩), .pointer (some ⟨r, 0, none⟩)] 94)).drew)) := hb.trans (hb1.mono (by omega))
  clear hb hb1 ys zz y0 y1 y2 y3 y4 y5 y6 y7 y8
  go_region_held3 (fun w' => w'.cell? ⟨G, 0, none⟩ = some (.slice (some ⟨g, 0, none⟩) n cap) ∧ w'.cell? ⟨w.heap.size, 1, none⟩ = some (.int .i64 oon) ∧ w'.cell? ⟨g, k * 2, none⟩ = some (.pointer (some ⟨x, 0, none⟩)) ∧ w'.cell? ⟨g, k * 2 + 1, none⟩ = some (.pointer (some ⟨r, 0, none⟩))) (go_keep)
    (first | (go_at_call 37; refine (hp _).mono ?_; rintro e w' ⟨rfl, rfl⟩))
  all_goals generalize (w1.alloc (.cells #[.pointer (some ⟨x, 0, none⟩), .pointer (some ⟨r, 0, none⟩)] 94)).drew = w2 at *
  all_goals clear cG cx cr e1 e2 e3 e4 y1' hp
  all_goals
    by_cases h2 : ok = 2
    · subst h2
      have hcall' := hcall w2 HB2.out
      rw [if_pos (.inl rfl), if_pos (.inl rfl)] at hcall'
      clear hcall
      go_wp2_with fail
      refine hcall'.mono ?_
      rintro e w3 ⟨rfl, hq⟩
      go_wp2_with fail
      go_ret
      exact ⟨rfl, hq⟩
    · by_cases h3 : ok = 3
      · subst h3
        have hcall' := hcall w2 HB2.out
        rw [if_pos (.inr rfl), if_pos (.inr rfl)] at hcall'
        clear hcall
        go_wp2_with fail
        refine hcall'.mono ?_
        rintro e w3 ⟨rfl, hq⟩
        go_wp2_with fail
        go_ret
        exact ⟨rfl, hq⟩
      · have hcall' := hcall w2 HB2.out
        rw [if_neg (by omega), if_neg (by omega)] at hcall'
        have k2 : (ok == 2) = false := by simpa using h2
        have k3 : (ok == 3) = false := by simpa using h3
        clear hcall h2 h3
        go_wp2_with fail
        refine hcall'.mono ?_
        rintro e w3 ⟨rfl, hq⟩
        go_wp2_with fail
        go_ret
        exact ⟨rfl, hq⟩
end

end Go.Proofs.Ythkndfkkgncjfab

namespace Go.Proofs.Ythkndfkkgncjfab
open Go.RowKit
set_option maxRecDepth 100000

/-- the books agree, and none is longer than n changes -/
structure Good (bs : List Bk) (n : Nat) : Prop where
  len : bs.length ≤ n
  each : ∀ b ∈ bs, b.cx = b.cr ∧ b.cr.length ≤ n

theorem Good.mono {bs : List Bk} {n m : Nat} (h : Good bs n) (hm : n ≤ m) : Good bs m := ⟨Nat.le_trans h.len hm, fun b hb => ⟨(h.each b hb).1, Nat.le_trans (h.each b hb).2 hm⟩⟩
theorem Good.more {bs : List Bk} {n : Nat} (h : Good bs n) (x r : Nat) (a b p : Int) : Good (bs ++ [⟨x, r, a, b, p, [], []⟩]) (n + 1) := by
  refine ⟨by have := h.len; simp; omega, fun c hc => ?_⟩
  rw [List.mem_append] at hc
  rcases hc with hc | hc
  · exact (h.mono (Nat.le_succ _)).each c hc
  · simp at hc; subst hc; exact ⟨rfl, Nat.zero_le _⟩
theorem Good.set {bs : List Bk} {n : Nat} (h : Good bs n) (i : Nat) (b : Bk) (hb : b.cx = b.cr ∧ b.cr.length ≤ n + 1) : Good (bs.set i b) (n + 1) := by
  refine ⟨by have := h.len; simp; omega, fun c hc => ?_⟩
  rcases List.mem_or_eq_of_mem_set hc with hc | rfl
  · exact (h.mono (Nat.le_succ _)).each c hc
  · exact hb
theorem insRes_len (cs : List Do.Chg) (a : Int) (s : ByteArray) : (insRes cs a s).2.2.length ≤ cs.length + 1 := by
  unfold insRes
  split
  · simp
  · split <;> simp
theorem delRes_len (cs : List Do.Chg) (id : Int) : (delRes cs id).2.length ≤ cs.length + 1 := by
  unfold delRes
  split
  · simp
  · split <;> simp

section
variable {At : World → Nat → Int → Int → Int → List Do.Chg → (Nat → Prop) → Prop} {DP : World → Nat → (Nat → Prop) → Prop}
variable {B G D : Nat} {v : Value} {bs : List Bk}

theorem Inv.low {w w' : World} {own : Nat → Nat} (h : Inv At DP w B G D v bs own) (hB : B ≤ w.heap.size) (ho : Only (fun k => own k ≠ 0) w w') : Below B w w' :=
  ⟨ho.os, ho.tape, ho.output, ho.size, fun k hk => ho.block k (by omega) (fun hf => by have := (h.mine k hf).1; omega)⟩

/-- what a step leaves -/
def After (At : World → Nat → Int → Int → Int → List Do.Chg → (Nat → Prop) → Prop) (DP : World → Nat → (Nat → Prop) → Prop) (B G D n : Nat) (w w' : World) : Prop :=
  ∃ v' bs' own', Inv At DP w' B G D v' bs' own' ∧ Good bs' n ∧ Below B w w'

theorem step_inv (hC : Serves At 28 21 23 60 62 20 58 11) (hD : Drawn DP) (own : Nat → Nat) (n : Nat) (o : OpV) (w : World) (h : Inv At DP w B G D v bs own) (hB : B ≤ w.heap.size) (hg : Good bs n) (hn : n ≤ 2000000000000) (ho : o.ok)
    (h5 : o.k ≠ 5) (h8 : o.k ≠ 8) (h9 : o.k ≠ 9) (h10 : o.k ≠ 10) (h11 : o.k ≠ 11) :
    Calls Try.prog 25 #[.pointer (some ⟨G, 0, none⟩), opV o] w fun e w' => e = .returned (.bool true) ∧ After At DP B G D (n + 1) w w' := by
  obtain ⟨rk, ron, ra, rb, rc, rf0, rf1, rf2, rs⟩ := ho
  have hs : o.s.size ≤ 9223372036854775807 := by unfold maxLen at rs; omega
  have hGl := (h.mine G (by rw [h.ownG]; decide)).2
  by_cases h1 : o.k = 1
  · refine step_new (fun _ w' => After At DP B G D (n + 1) w w') o w h1 ?_
    have hb : Below w.heap.size w (w.alloc (opObj o)) := (Below.refl _ _).alloc (Nat.le_refl _) _
    have hI := h.quiet hC hD hb
    have hB' : B ≤ (w.alloc (opObj o)).heap.size := Nat.le_trans hB hb.size
    by_cases hc : okc o.f0 o.f1 o.f2
    · refine (opened_ok hC hD own o.f0 o.f1 o.f2 _ hc hI hB' (Nat.le_trans hg.len hn)).mono ?_
      rintro e w' ⟨he, x, r, v', own', hI', ho'⟩
      exact ⟨he, v', _, own', hI', hg.more x r _ _ _, (hb.mono hB).trans (hI.low hB' ho')⟩
    · refine (opened_no hC o.f0 o.f1 o.f2 _ hc).mono ?_
      rintro e w' ⟨he, hb'⟩
      exact ⟨he, v, bs, own, hI.quiet hC hD hb', hg.mono (Nat.le_succ _), (hb.mono hB).trans (hb'.mono hB')⟩
  · have b1 : (o.k == 1) = false := by simpa using h1
    have b10 : (o.k == 10) = false := by simpa using h10
    have b11 : (o.k == 11) = false := by simpa using h11
    have cG : w.cell? ⟨G, 0, none⟩ = some v := by rw [cell_of_row w G 0 _ 79 (0, 0) h.wo]; rfl
    rcases Nat.eq_zero_or_pos bs.length with hz | hz
    · obtain ⟨a0, cap, hv⟩ : ∃ a0 cap, v = .slice a0 0 cap := by
        rcases h.row.2 with ⟨rfl, _⟩ | ⟨g, cap, cur, rfl, _⟩
        · exact ⟨none, 0, rfl⟩
        · exact ⟨_, cap, by rw [hz]⟩
      rw [hv] at cG
      refine (step_none o w a0 cap b1 b10 b11 cG hGl).mono ?_
      rintro e w' ⟨he, hb⟩
      exact ⟨he, v, bs, own, h.quiet hC hD hb, hg.mono (Nat.le_succ _), hb.mono hB⟩
    · obtain ⟨g, cap, hv, hgo⟩ : ∃ g cap, v = .slice (some ⟨g, 0, none⟩) bs.length cap ∧ own g = 1 := by
        rcases h.row.2 with ⟨_, h0⟩ | ⟨g, cap, cur, rfl, _⟩
        · omega
        · exact ⟨g, cap, rfl, h.rowOwn g rfl⟩
      rw [hv] at cG
      have hgl := (h.mine g (by rw [hgo]; decide)).2
      have hrow := h.row
      rw [hv] at hrow
      refine step_at (fun _ w' => After At DP B G D (n + 1) w w') o w g bs.length cap b1 b10 b11 ron cG hGl hgl hz (Nat.le_trans hg.len hn) ?_
      intro k hk
      have hi : bs[k]? = some bs[k] := List.getElem?_eq_getElem hk
      generalize bs[k] = b at hi
      have hmem : b ∈ bs := List.mem_of_getElem? hi
      obtain ⟨hcx, hl⟩ := hg.each b hmem
      have c0 : w.cell? ⟨g, k * 2, none⟩ = some (.pointer (some ⟨b.x, 0, none⟩)) := by
        rw [World.ownsRow.cellAt hrow (k * 2) (by omega)]
        exact bks_get bs k 0 b hi (by omega)
      have c1 : w.cell? ⟨g, k * 2 + 1, none⟩ = some (.pointer (some ⟨b.r, 0, none⟩)) := by
        rw [World.ownsRow.cellAt hrow (k * 2 + 1) (by omega)]
        exact bks_get bs k 1 b hi (by omega)
      refine ⟨b.x, b.r, c0, c1, fun w1 hb => ?_⟩
      have hI := h.quiet hC hD hb
      have hB' : B ≤ w1.heap.size := Nat.le_trans hB hb.size
      have quiet : ∀ w', Below w1.heap.size w1 w' → After At DP B G D (n + 1) w w' := fun w' hb' => ⟨v, bs, own, hI.quiet hC hD hb', hg.mono (Nat.le_succ _), (hb.mono hB).trans (hb'.mono hB')⟩
      by_cases h2 : o.k = 2
      · rw [if_pos (.inl h2), if_pos (.inl h2)]
        refine (changed_ins hC hD own k b o w1 hI hi hcx (Nat.le_trans hl hn) h2 hs hB').mono ?_
        rintro e w' ⟨he, _, ho', own', hI'⟩
        exact ⟨he, v, _, own', hI', hg.set k _ ⟨rfl, Nat.le_trans (insRes_len _ _ _) (by omega)⟩, (hb.mono hB).trans (hI.low hB' ho')⟩
      · by_cases h3 : o.k = 3
        · rw [if_pos (.inr h3), if_pos (.inr h3)]
          refine (changed_del hC hD own k b o w1 hI hi hcx (Nat.le_trans hl hn) (by simpa using h2) ra hB').mono ?_
          rintro e w' ⟨he, _, ho', own', hI'⟩
          exact ⟨he, v, _, own', hI', hg.set k _ ⟨rfl, Nat.le_trans (delRes_len _ _) (by omega)⟩, (hb.mono hB).trans (hI.low hB' ho')⟩
        · rw [if_neg (by omega), if_neg (by omega)]
          by_cases h6 : o.k = 6
          · exact (asked_ext hC hD own k b o w1 hI hi hcx (Nat.le_trans hl hn) h6 ra rb rc).mono fun e w' ⟨he, hb'⟩ => ⟨he, quiet w' hb'⟩
          · by_cases h7 : o.k = 7
            · exact (asked_cnt hC hD own k b o w1 hI hi hcx (Nat.le_trans hl hn) h7 hs).mono fun e w' ⟨he, hb'⟩ => ⟨he, quiet w' hb'⟩
            · by_cases h4 : o.k = 4
              · exact (asked_ver hC hD own k b o w1 hI hi hcx (Nat.le_trans hl hn) h4).mono fun e w' ⟨he, hb'⟩ => ⟨he, quiet w' hb'⟩
              · exact (asked_oth b o w1 (by simpa using h4) (by simpa using h5) (by simpa using h6) (by simpa using h7) (by simpa using h8) (by simpa using h9)).mono fun e w' ⟨he, hb'⟩ => ⟨he, quiet w' hb'⟩
end

end Go.Proofs.Ythkndfkkgncjfab

namespace Go.Proofs.Ythkndfkkgncjfab
open Go.RowKit
set_option maxRecDepth 100000

section
variable {At : World → Nat → Int → Int → Int → List Do.Chg → (Nat → Prop) → Prop} {DP : World → Nat → (Nat → Prop) → Prop}
variable {B G D : Nat} {v : Value} {bs : List Bk}

/-- the books are laid away -/
theorem Inv.reset {w : World} {own : Nat → Nat} (hD : Drawn DP) (h : Inv At DP w B G D v bs own) : Inv At DP (w.setCell ⟨G, 0, none⟩ (.slice none 0 0)) B G D (.slice none 0 0) [] own := by
  have hG := h.ownG
  have hs : (w.setCell ⟨G, 0, none⟩ (.slice none 0 0)).heap.size = w.heap.size := by simp
  refine ⟨?_, World.ownsRow_nil _ _ _ _, ?_, hG, ?_, ?_, ?_, fun k hk => by rw [hs]; exact h.mine k hk⟩
  · exact (heap_setCell_same w G 0 _ 79 _ h.wo).trans rfl
  · intro g hg; simp [Value.ownBlock] at hg
  · exact hD.frame h.dr (by omega) (fun k hk => Below.heap_setCell w ⟨G, 0, none⟩ _ k (fun e => by rw [e, hG] at hk; cases hk))
  · intro i b hi; simp at hi
  · intro i b hi; simp at hi

/-- at the start: an empty drawer, no books -/
theorem Inv.start {w : World} (hG : w.heap[G]? = some (.cells #[.slice none 0 0, .pointer (some ⟨D, 0, none⟩)] 79 (0, 0))) (hd : DP w D (fun k => k = D)) (hdl : D < w.heap.size) (hBD : B ≤ D) (hBG : B ≤ G) (hDG : D ≠ G) :
    ∃ own, Inv At DP w B G D (.slice none 0 0) [] own := by
  refine ⟨fun k => if k = D then 2 else if k = G then 1 else 0, ⟨hG, World.ownsRow_nil _ _ _ _, ?_, ?_, ?_, ?_, ?_, ?_⟩⟩
  · intro g hg; simp [Value.ownBlock] at hg
  · show (if G = D then 2 else if G = G then 1 else 0) = 1
    rw [if_neg (fun e => hDG e.symm), if_pos rfl]
  · have : (fun k => (if k = D then 2 else if k = G then 1 else 0) = 2) = (fun k => k = D) := by
      funext k
      by_cases h : k = D
      · simp [h]
      · by_cases h' : k = G <;> simp [h, h']
    rw [this]; exact hd
  · intro i b hi; simp at hi
  · intro i b hi; simp at hi
  · intro k hk
    have hGl := lt_of_block hG
    by_cases h : k = D
    · subst h; exact ⟨hBD, hdl⟩
    · by_cases h' : k = G
      · subst h'; exact ⟨hBG, hGl⟩
      · simp [h, h'] at hk

/-- what a step leaves, the drawer's count told -/
def Left (At : World → Nat → Int → Int → Int → List Do.Chg → (Nat → Prop) → Prop) (DS : Nat → World → Nat → (Nat → Prop) → Prop) (B G D n : Nat) (w w' : World) : Prop :=
  ∃ m v' bs' own', m ≤ n ∧ Inv At (DS m) w' B G D v' bs' own' ∧ Good bs' n ∧ Below B w w'

/-- a law's steps: the kinds that are asked go as they should -/
def Steps (At : World → Nat → Int → Int → Int → List Do.Chg → (Nat → Prop) → Prop) (DS : Nat → World → Nat → (Nat → Prop) → Prop) (lo hi : Int) : Prop :=
  ∀ (B G D m n : Nat) (v : Value) (bs : List Bk) (own : Nat → Nat) (o : OpV) (w : World), m ≤ n → Inv At (DS m) w B G D v bs own → B ≤ w.heap.size → Good bs n → n ≤ 2000000000000 → o.ok → (o.k ≤ 3 ∨ lo ≤ o.k ∧ o.k ≤ hi) →
    Calls Try.prog 25 #[.pointer (some ⟨G, 0, none⟩), opV o] w fun e w' => e = .returned (.bool true) ∧ Left At DS B G D (n + 1) w w'

set_option maxHeartbeats 4000000 in
theorem plays_law {DS : Nat → World → Nat → (Nat → Prop) → Prop} (hC : Serves At 28 21 23 60 62 20 58 11) (hD : ∀ m, Drawn (DS m)) (hz : ∀ w D, w.heap[D]? = some (.cells #[.int .i64 0, .slice none 0 0, .slice none 0 0, .slice none 0 0, .slice none 0 0] 76 (0, 0)) → DS 0 w D (fun k => k = D))
    (lo hi : Int) (hst : Steps At DS lo hi) (sv : Value) (len : Nat) (os : Nat → OpV) (w : World) (hsc : Script w sv len os) (hlen : len ≤ 1999999999999) :
    Calls Try.prog 15 #[sv, .int .i64 lo, .int .i64 hi] w fun e w' => e = .returned (.bool true) ∧ Below w.heap.size w w' := by
  obtain ⟨a0, cap, rfl, hsv⟩ : ∃ a0 cap, sv = .slice a0 len cap ∧ (∀ {k : Nat}, k < len → ∃ gb off, a0 = some ⟨gb, off, none⟩ ∧ ∀ i, i < len → (os i).ok ∧ ∀ j u, (opCells (os i))[j]? = some u → w.cell? ⟨gb, off + i * 9 + j, none⟩ = some u) := by
    rcases hsc with ⟨h1, h2⟩ | ⟨a, cap, h1, _, h2⟩
    · exact ⟨none, 0, by rw [h2]; exact h1, fun h => by omega⟩
    · refine ⟨some a, cap, h1, fun {k} hk => ?_⟩
      have hsp := (h2 0 (by omega)).2 0 _ rfl
      obtain ⟨gb, off, spot⟩ := a
      have hs0 : spot = none := by
        cases spot with
        | none => rfl
        | some n =>
          exfalso
          simp [Addr.add, World.cell?] at hsp
          split at hsp <;> simp at hsp
      subst hs0
      refine ⟨gb, off, rfl, fun i hi => ⟨(h2 i hi).1, fun j u hu => ?_⟩⟩
      have := (h2 i hi).2 j u hu
      rw [Nat.add_assoc]
      generalize i * 9 + j = q at *
      by_cases hq : q = 0
      · subst hq; simpa [Addr.add] using this
      · simpa [Addr.add, hq] using this
  clear hsc
  go_enter Try.func15, Try.ntmps15
  go_wp2_with fail
  have hb0 : Below w.heap.size w ((w.alloc (.cells #[.int .i64 0, .slice none 0 0, .slice none 0 0, .slice none 0 0, .slice none 0 0] 76)).alloc (.cells #[.slice none 0 0, .pointer (some ⟨w.heap.size, 0, none⟩)] 79)) := ((Below.refl _ _).alloc (Nat.le_refl _) _).alloc (by simp) _
  have hsz : ((w.alloc (.cells #[.int .i64 0, .slice none 0 0, .slice none 0 0, .slice none 0 0, .slice none 0 0] 76)).alloc (.cells #[.slice none 0 0, .pointer (some ⟨w.heap.size, 0, none⟩)] 79)).heap.size = w.heap.size + 2 := by simp
  have hGo : ((w.alloc (.cells #[.int .i64 0, .slice none 0 0, .slice none 0 0, .slice none 0 0, .slice none 0 0] 76)).alloc (.cells #[.slice none 0 0, .pointer (some ⟨w.heap.size, 0, none⟩)] 79)).heap[w.heap.size + 1]? = some (.cells #[.slice none 0 0, .pointer (some ⟨w.heap.size, 0, none⟩)] 79 (0, 0)) := by
    have := heap_alloc_new (w.alloc (.cells #[.int .i64 0, .slice none 0 0, .slice none 0 0, .slice none 0 0, .slice none 0 0] 76)) (.cells #[.slice none 0 0, .pointer (some ⟨w.heap.size, 0, none⟩)] 79)
    simpa using this
  have hDo : ((w.alloc (.cells #[.int .i64 0, .slice none 0 0, .slice none 0 0, .slice none 0 0, .slice none 0 0] 76)).alloc (.cells #[.slice none 0 0, .pointer (some ⟨w.heap.size, 0, none⟩)] 79)).heap[w.heap.size]? = some (.cells #[.int .i64 0, .slice none 0 0, .slice none 0 0, .slice none 0 0, .slice none 0 0] 76 (0, 0)) := by
    rw [Below.heap_alloc _ _ w.heap.size (by simp)]
    exact heap_alloc_new w _
  generalize (w.alloc (.cells #[.int .i64 0, .slice none 0 0, .slice none 0 0, .slice none 0 0, .slice none 0 0] 76)).alloc (.cells #[.slice none 0 0, .pointer (some ⟨w.heap.size, 0, none⟩)] 79) = w1 at *
  obtain ⟨own1, hI1⟩ := Inv.start (At := At) (DP := DS 0) (B := w.heap.size) hGo (hz w1 w.heap.size hDo) (by omega) (Nat.le_refl _) (Nat.le_succ _) (by omega)
  refine (opened_ok hC (hD 0) own1 400 8 3 w1 (by unfold okc; omega) hI1 (by omega) (by simp)).mono ?_
  rintro e w2 ⟨rfl, x, r, v2, own2, hI2, ho2⟩
  have hb2 : Below w.heap.size w w2 := hb0.trans (hI1.low (by omega) ho2)
  obtain ⟨g2, cap2, hv2⟩ : ∃ g cap, v2 = .slice (some ⟨g, 0, none⟩) 1 cap := by
    rcases hI2.row.2 with ⟨_, h0⟩ | ⟨g, cap, cur, rfl, _⟩
    · simp at h0
    · exact ⟨g, cap, rfl⟩
  subst hv2
  have cG2 : w2.cell? ⟨w.heap.size + 1, 0, none⟩ = some (.slice (some ⟨g2, 0, none⟩) 1 cap2) := by rw [cell_of_row w2 _ 0 _ 79 (0, 0) hI2.wo]; rfl
  have fG2 : w2.frozen? ⟨w.heap.size + 1, 0, none⟩ = false := frozen_of_row w2 _ 0 _ 79 hI2.wo
  have hI3 := hI2.reset (hD 0)
  have hb3 : Below w.heap.size w (w2.setCell ⟨w.heap.size + 1, 0, none⟩ (.slice none 0 0)) := hb2.setCell (p := ⟨w.heap.size + 1, 0, none⟩) (Nat.le_succ _) _
  have HI3 : Hid (Inv At (DS 0) (w2.setCell ⟨w.heap.size + 1, 0, none⟩ (.slice none 0 0)) w.heap.size (w.heap.size + 1) w.heap.size (.slice none 0 0) [] own2) := hI3
  clear hI1 hI2 hI3 ho2 hGo hDo hb0 hb2
  go_wp2_with fail
  generalize w2.setCell ⟨w.heap.size + 1, 0, none⟩ (.slice none 0 0) = w3 at *
  clear cG2 fG2
  go_loopw [9] (fun i wr => ∃ k : Nat, k ≤ len ∧ i = .int .i64 k ∧ (∃ m v bs own, m ≤ k ∧ Inv At (DS m) wr w.heap.size (w.heap.size + 1) w.heap.size v bs own ∧ Good bs k) ∧ Below w.heap.size w wr) (fun i _ => len - (intOf i).toNat)
  case atStart => exact ⟨0, Nat.zero_le _, rfl, ⟨0, _, _, _, Nat.le_refl _, HI3.out, ⟨Nat.le_refl _, by simp⟩⟩, hb3⟩
  case round =>
    obtain ⟨k, hk, rfl, hinv, hb⟩ := hrel
    clear HI3 hb3
    by_cases hlt : k < len
    · obtain ⟨gb, off, rfl, hcell⟩ := hsv hlt
      obtain ⟨hok, hcs⟩ := hcell k hlt
      have hal : gb < w.heap.size := World.block_lt_of_cell? w ⟨gb, off + k * 9 + 0, none⟩ (hcs 0 _ rfl)
      have cs : ∀ (j : Nat) (u : Value), (opCells (os k))[j]? = some u → wr.cell? ⟨gb, off + k * 9 + j, none⟩ = some u := fun j u hu => (hb.cell (p := ⟨gb, off + k * 9 + j, none⟩) hal).trans (hcs j u hu)
      have c0 : wr.cell? ⟨gb, off + k * 9, none⟩ = _ := cs 0 _ rfl
      have c1 := cs 1 _ rfl
      have c2 := cs 2 _ rfl
      have c3 := cs 3 _ rfl
      have c4 := cs 4 _ rfl
      have c5 := cs 5 _ rfl
      have c6 := cs 6 _ rfl
      have c7 := cs 7 _ rfl
      have c8 := cs 8 _ rfl
      clear cs hcs hcell hsv
      obtain ⟨m, v, bs, own, hm, hI, hgd⟩ := hinv
      have HR : (os k).k ≤ 3 ∨ lo ≤ (os k).k ∧ (os k).k ≤ hi → Calls Try.prog 25 #[.pointer (some ⟨w.heap.size + 1, 0, none⟩), opV (os k)] wr fun e w' => e = .returned (.bool true) ∧ Left At DS w.heap.size (w.heap.size + 1) w.heap.size (k + 1) wr w' := fun hkk => hst _ _ _ m k v bs own (os k) wr hm hI hb.size hgd (by omega) hok hkk
      have HS : Hid (∃ m v bs own, m ≤ k + 1 ∧ Inv At (DS m) wr w.heap.size (w.heap.size + 1) w.heap.size v bs own ∧ Good bs (k + 1)) := ⟨m, v, bs, own, by omega, hI, hgd.mono (Nat.le_succ _)⟩
      have HB : Hid (Below w.heap.size w wr) := hb
      have HD : Hid (∀ m, Drawn (DS m)) := hD
      have HC : Hid (Serves At 28 21 23 60 62 20 58 11) := hC
      clear hI hgd hst hb hok hz hD hC
      rcases Int.lt_or_le 3 (os k).k with q3 | q3
      · rcases Int.lt_or_le (os k).k lo with ql | ql
        · have d3 : decide (3 < (os k).k) = true := by simpa using q3
          have dl : decide ((os k).k < lo) = true := by simpa using ql
          clear HR
          go_wp2_with fail
          exact ⟨⟨k + 1, by omega, by go_num, HS.out, HB.out⟩, by simp [intOf]; omega⟩
        · rcases Int.lt_or_le hi (os k).k with qh | qh
          · have d3 : decide (3 < (os k).k) = true := by simpa using q3
            have dl : decide ((os k).k < lo) = false := by simpa using ql
            have dh : decide (hi < (os k).k) = true := by simpa using qh
            clear HR
            go_wp2_with fail
            exact ⟨⟨k + 1, by omega, by go_num, HS.out, HB.out⟩, by simp [intOf]; omega⟩
          · have d3 : decide (3 < (os k).k) = true := by simpa using q3
            have dl : decide ((os k).k < lo) = false := by simpa using ql
            have dh : decide (hi < (os k).k) = false := by simpa using qh
            have HRR : Hid (Calls Try.prog 25 #[.pointer (some ⟨w.heap.size + 1, 0, none⟩), opV (os k)] wr fun e w' => e = .returned (.bool true) ∧ Left At DS w.heap.size (w.heap.size + 1) w.heap.size (k + 1) wr w') := HR (.inr ⟨ql, qh⟩)
            clear HR
            go_wp2_with fail
            refine HRR.out.mono ?_
            rintro e w4 ⟨rfl, m4, v4, bs4, own4, hm4, hI4, hg4, hb4⟩
            clear HRR c0 c1 c2 c3 c4 c5 c6 c7 c8 HS
            have cD : w4.cell? ⟨w.heap.size + 1, 1, none⟩ = some (.pointer (some ⟨w.heap.size, 0, none⟩)) := by rw [cell_of_row w4 _ 1 _ 79 (0, 0) hI4.wo]; rfl
            have HL := (HD.out m4).looks hI4.dr
            have HI4 : Hid (Inv At (DS m4) w4 w.heap.size (w.heap.size + 1) w.heap.size v4 bs4 own4) := hI4
            have HB4 : Hid (Below w.heap.size w w4) := HB.out.trans hb4
            clear hI4 hb4 HB
            go_wp2_with fail
            refine HL.mono ?_
            rintro e w5 ⟨rfl, hb5⟩
            have HI5 : Hid (Inv At (DS m4) w5 w.heap.size (w.heap.size + 1) w.heap.size v4 bs4 own4) := HI4.out.quiet HC.out (HD.out m4) hb5
            have HB5 : Hid (Below w.heap.size w w5) := HB4.out.trans (hb5.mono HB4.out.size)
            clear HL HI4 HB4 hb5 cD
            go_wp2_with fail
            exact ⟨⟨k + 1, by omega, by go_num, ⟨m4, v4, bs4, own4, hm4, HI5.out, hg4⟩, HB5.out⟩, by simp [intOf]; omega⟩
      · have d3 : decide (3 < (os k).k) = false := by simpa using q3
        have HRR : Hid (Calls Try.prog 25 #[.pointer (some ⟨w.heap.size + 1, 0, none⟩), opV (os k)] wr fun e w' => e = .returned (.bool true) ∧ Left At DS w.heap.size (w.heap.size + 1) w.heap.size (k + 1) wr w') := HR (.inl q3)
        clear HR
        go_wp2_with fail
        refine HRR.out.mono ?_
        rintro e w4 ⟨rfl, m4, v4, bs4, own4, hm4, hI4, hg4, hb4⟩
        clear HRR c0 c1 c2 c3 c4 c5 c6 c7 c8 HS
        have cD : w4.cell? ⟨w.heap.size + 1, 1, none⟩ = some (.pointer (some ⟨w.heap.size, 0, none⟩)) := by rw [cell_of_row w4 _ 1 _ 79 (0, 0) hI4.wo]; rfl
        have HL := (HD.out m4).looks hI4.dr
        have HI4 : Hid (Inv At (DS m4) w4 w.heap.size (w.heap.size + 1) w.heap.size v4 bs4 own4) := hI4
        have HB4 : Hid (Below w.heap.size w w4) := HB.out.trans hb4
        clear hI4 hb4 HB
        go_wp2_with fail
        refine HL.mono ?_
        rintro e w5 ⟨rfl, hb5⟩
        have HI5 : Hid (Inv At (DS m4) w5 w.heap.size (w.heap.size + 1) w.heap.size v4 bs4 own4) := HI4.out.quiet HC.out (HD.out m4) hb5
        have HB5 : Hid (Below w.heap.size w w5) := HB4.out.trans (hb5.mono HB4.out.size)
        clear HL HI4 HB4 hb5 cD
        go_wp2_with fail
        exact ⟨⟨k + 1, by omega, by go_num, ⟨m4, v4, bs4, own4, hm4, HI5.out, hg4⟩, HB5.out⟩, by simp [intOf]; omega⟩
    · go_wp2_with fail
      go_ret
      exact ⟨rfl, hb⟩
end

end Go.Proofs.Ythkndfkkgncjfab

namespace Go.Proofs.Ythkndfkkgncjfab
open Go.RowKit
set_option maxRecDepth 100000

/-- an index that tells its parts, all its changes as they come of calls -/
structure Says (At : World → Nat → Int → Int → Int → List Do.Chg → (Nat → Prop) → Prop) (st : Nat) : Prop where
  stats : ∀ {w x a b p cs F}, At w x a b p cs F → ∀ (P : Pa.Pt), Pa.parts b.toNat cs = P → ∀ (L : List Do.Chg), Do.there cs = L → ∀ (onv : Int), (if 0 < P.left then (1 : Int) else 0) = onv → Calls Try.prog st #[.pointer (some ⟨x, 0, none⟩)] w fun e w' => e = .returned (.agg #[.int .i64 (L.length : Int), .int .i64 (Do.size L : Nat), .int .i64 (Pa.wt P.main : Nat), .int .i64 (Pa.wt P.frozen : Nat), .int .i64 (Pa.wt P.live : Nat), .int .i64 (Pa.wt (Pa.dead P.main) : Nat), .int .i64 (P.left : Int), .int .i64 onv, .int .i64 (P.hand : Int)]) ∧ Below w.heap.size w w'
  valid : ∀ {w x a b p cs F}, At w x a b p cs F → Valid b.toNat cs

section
variable {At : World → Nat → Int → Int → Int → List Do.Chg → (Nat → Prop) → Prop} {DP : World → Nat → (Nat → Prop) → Prop} {B G D : Nat} {v : Value} {bs : List Bk}

set_option maxHeartbeats 2000000 in
theorem asked_sta (hC : Serves At 28 21 23 60 62 20 58 11) (hS : Says At 16) (hD : Drawn DP) (own : Nat → Nat) (i : Nat) (b : Bk) (o : OpV) (w : World) (h : Inv At DP w B G D v bs own) (hi : bs[i]? = some b) (hcx : b.cx = b.cr) (hl : b.cr.length ≤ 2000000000000) (hk : o.k = 9) :
    Calls Try.prog 39 #[.pointer (some ⟨G, 0, none⟩), bkV b, opV o] w fun e w' => e = .returned (.bool true) ∧ Below w.heap.size w w' := by
  obtain ⟨ok, oon, oa, ob, oc, os, f0, f1, f2⟩ := o
  dsimp only at *
  subst hk
  unfold bkV opV
  dsimp only
  go_enter Try.func39, Try.ntmps39
  have y0 := World.news_of_block (Below.heap_alloc _ (.cells #[.int .i64 9, .int .i64 oon, .int .i64 oa, .int .i64 ob, .int .i64 oc, .string os, .int .i64 f0, .int .i64 f1, .int .i64 f2] 82) w.heap.size (by simp) |>.trans (heap_alloc_new w (.cells #[.pointer (some ⟨b.x, 0, none⟩), .pointer (some ⟨b.r, 0, none⟩)] 94)))
  have hb0 : Below w.heap.size w ((w.alloc (.cells #[.pointer (some ⟨b.x, 0, none⟩), .pointer (some ⟨b.r, 0, none⟩)] 94)).alloc (.cells #[.int .i64 9, .int .i64 oon, .int .i64 oa, .int .i64 ob, .int .i64 oc, .string os, .int .i64 f0, .int .i64 f1, .int .i64 f2] 82)) := ((Below.refl _ _).alloc (Nat.le_refl _) _).alloc (by simp) _
  have hsz : ((w.alloc (.cells #[.pointer (some ⟨b.x, 0, none⟩), .pointer (some ⟨b.r, 0, none⟩)] 94)).alloc (.cells #[.int .i64 9, .int .i64 oon, .int .i64 oa, .int .i64 ob, .int .i64 oc, .string os, .int .i64 f0, .int .i64 f1, .int .i64 f2] 82)).heap.size = w.heap.size + 2 := by simp
  have zp := y0 1 _ rfl
  clear y0
  go_wp2_with fail
  have hI1 := h.quiet hC hD hb0
  generalize (w.alloc (.cells #[.pointer (some ⟨b.x, 0, none⟩), .pointer (some ⟨b.r, 0, none⟩)] 94)).alloc (.cells #[.int .i64 9, .int .i64 oon, .int .i64 oa, .int .i64 ob, .int .i64 oc, .string os, .int .i64 f0, .int .i64 f1, .int .i64 f2] 82) = w1 at *
  have hcode := hI1.code i b hi
  rw [hcx] at hcode
  have hval := hS.valid hcode
  obtain ⟨P, hP⟩ : ∃ P, Pa.parts b.b.toNat b.cr = P := ⟨_, rfl⟩
  obtain ⟨L, hL⟩ : ∃ L, Do.there b.cr = L := ⟨_, rfl⟩
  obtain ⟨onv, hov⟩ : ∃ onv, (if 0 < P.left then (1 : Int) else 0) = onv := ⟨_, rfl⟩
  refine (hS.stats hcode P hP L hL onv hov).mono ?_
  rintro e w2 ⟨rfl, hb2⟩
  have s2 := hb2.size
  have hI2 := hI1.quiet hC hD hb2
  have hb3 : Below w2.heap.size w2 (w2.alloc (.cells #[.int .i64 (L.length : Int), .int .i64 (Do.size L : Nat), .int .i64 (Pa.wt P.main : Nat), .int .i64 (Pa.wt P.frozen : Nat), .int .i64 (Pa.wt P.live : Nat), .int .i64 (Pa.wt (Pa.dead P.main) : Nat), .int .i64 (P.left : Int), .int .i64 onv, .int .i64 (P.hand : Int)] 50)) := (Below.refl _ _).alloc (Nat.le_refl _) _
  have hI3 := hI2.quiet hC hD hb3
  have t3 : StB (w2.alloc (.cells #[.int .i64 (L.length : Int), .int .i64 (Do.size L : Nat), .int .i64 (Pa.wt P.main : Nat), .int .i64 (Pa.wt P.frozen : Nat), .int .i64 (Pa.wt P.live : Nat), .int .i64 (Pa.wt (Pa.dead P.main) : Nat), .int .i64 (P.left : Int), .int .i64 onv, .int .i64 (P.hand : Int)] 50)) w2.heap.size _ _ _ _ _ _ _ _ _ := heap_alloc_new w2 _
  have zz : w2.cell? ⟨w.heap.size, 1, none⟩ = some (.pointer (some ⟨b.r, 0, none⟩)) := by
    rw [hb2.cell (by show w.heap.size < w1.heap.size; omega)]; simpa [Addr.add] using zp
  have zzp := (hb3.cell (p := ⟨w.heap.size, 1, none⟩) (by show w.heap.size < _; omega)).trans zz
  go_wp2_with fail
  generalize w2.alloc (.cells #[.int .i64 (L.length : Int), .int .i64 (Do.size L : Nat), .int .i64 (Pa.wt P.main : Nat), .int .i64 (Pa.wt P.frozen : Nat), .int .i64 (Pa.wt P.live : Nat), .int .i64 (Pa.wt (Pa.dead P.main) : Nat), .int .i64 (P.left : Int), .int .i64 onv, .int .i64 (P.hand : Int)] 50) = w3 at *
  obtain ⟨vr, hra, hrc, _, _, _, hok, _⟩ := hI3.ref i b hi
  have hbn : b.b = ((b.b.toNat : Nat) : Int) := by have := hok.2.2.1; omega
  have hbr : 1 ≤ b.b.toNat ∧ b.b.toNat ≤ 80 := by have := hok.2.2.1; have := hok.2.2.2.1; omega
  rw [hbn] at hra
  have HR : Hid (Calls Try.prog 67 #[.pointer (some ⟨b.r, 0, none⟩)] w3 fun e w' => e = .returned (.agg #[.int .i64 (L.length : Int), .int .i64 (Do.size L : Nat), .int .i64 (Pa.wt P.main : Nat), .int .i64 (Pa.wt P.frozen : Nat), .int .i64 (Pa.wt P.live : Nat), .int .i64 (Pa.wt (Pa.dead P.main) : Nat), .int .i64 (P.left : Int), .int .i64 onv, .int .i64 (P.hand : Int)]) ∧ Below w3.heap.size w3 w') := rStats_any b.r b.a b.p b.b.toNat vr b.cr w3 hbr hl hval hra hrc P hP L hL onv hov
  have s3 := hb3.size
  have HBA : Hid (Below w.heap.size w w3) := (hb0.trans (hb2.mono (by omega))).trans (hb3.mono (by omega))
  have HT3 : Hid (StB w3 w2.heap.size _ _ _ _ _ _ _ _ _) := t3
  clear hI1 hI2 hI3 h zp zz zzp hcode hval hra hrc hok hbn hbr hP hL hov hC hS hD hi hcx t3
  generalize L.length = n0 at *
  generalize Do.size L = n1 at *
  generalize Pa.wt P.main = n2 at *
  generalize Pa.wt P.frozen = n3 at *
  generalize Pa.wt P.live = n4 at *
  generalize Pa.wt (Pa.dead P.main) = n5 at *
  generalize P.left = n6 at *
  generalize P.hand = n8 at *
  refine HR.out.mono ?_
  rintro e w4 ⟨rfl, hb4⟩
  have s4 := hb4.size
  have t4 := HT3.out.below hb4
  have t3l := HT3.out.lt
  have hb5 : Below w4.heap.size w4 (w4.alloc (.cells #[.int .i64 (n0 : Int), .int .i64 (n1 : Int), .int .i64 (n2 : Int), .int .i64 (n3 : Int), .int .i64 (n4 : Int), .int .i64 (n5 : Int), .int .i64 (n6 : Int), .int .i64 onv, .int .i64 (n8 : Int)] 50)) := (Below.refl _ _).alloc (Nat.le_refl _) _
  have t5 := t4.below hb5
  have c0 := t5.c0
  have c1 := t5.c1
  have c2 := t5.c2
  have c3 := t5.c3
  have c4 := t5.c4
  have c5 := t5.c5
  have c6 := t5.c6
  have c7 := t5.c7
  have c8 := t5.c8
  have HB5 : Hid (Below w.heap.size w (w4.alloc (.cells #[.int .i64 (n0 : Int), .int .i64 (n1 : Int), .int .i64 (n2 : Int), .int .i64 (n3 : Int), .int .i64 (n4 : Int), .int .i64 (n5 : Int), .int .i64 (n6 : Int), .int .i64 onv, .int .i64 (n8 : Int)] 50))) := (HBA.out.trans (hb4.mono (by have := HBA.out.size; omega))).trans (hb5.mono (by have := HBA.out.size; omega))
  clear HR HT3 t4 t5 hb5 hb4 hb3 hb2 hb0
  go_wp2_with fail
  go_ret
  exact ⟨rfl, HB5.out⟩

/-- a step that asks for Stats -/
theorem step_sta (hC : Serves At 28 21 23 60 62 20 58 11) (hS : Says At 16) (hD : Drawn DP) (own : Nat → Nat) (n : Nat) (o : OpV) (w : World) (h : Inv At DP w B G D v bs own) (hB : B ≤ w.heap.size) (hg : Good bs n) (hn : n ≤ 2000000000000) (ho : o.ok) (h9 : o.k = 9) :
    Calls Try.prog 25 #[.pointer (some ⟨G, 0, none⟩), opV o] w fun e w' => e = .returned (.bool true) ∧ After At DP B G D (n + 1) w w' := by
  obtain ⟨rk, ron, ra, rb, rc, rf0, rf1, rf2, rs⟩ := ho
  have hGl := (h.mine G (by rw [h.ownG]; decide)).2
  have b1 : (o.k == 1) = false := by rw [h9]; rfl
  have b10 : (o.k == 10) = false := by rw [h9]; rfl
  have b11 : (o.k == 11) = false := by rw [h9]; rfl
  have cG : w.cell? ⟨G, 0, none⟩ = some v := by rw [cell_of_row w G 0 _ 79 (0, 0) h.wo]; rfl
  rcases Nat.eq_zero_or_pos bs.length with hz | hz
  · obtain ⟨a0, cap, hv⟩ : ∃ a0 cap, v = .slice a0 0 cap := by
      rcases h.row.2 with ⟨rfl, _⟩ | ⟨g, cap, cur, rfl, _⟩
      · exact ⟨none, 0, rfl⟩
      · exact ⟨_, cap, by rw [hz]⟩
    rw [hv] at cG
    refine (step_none o w a0 cap b1 b10 b11 cG hGl).mono ?_
    rintro e w' ⟨he, hb⟩
    exact ⟨he, v, bs, own, h.quiet hC hD hb, hg.mono (Nat.le_succ _), hb.mono hB⟩
  · obtain ⟨g, cap, hv, hgo⟩ : ∃ g cap, v = .slice (some ⟨g, 0, none⟩) bs.length cap ∧ own g = 1 := by
      rcases h.row.2 with ⟨_, h0⟩ | ⟨g, cap, cur, rfl, _⟩
      · omega
      · exact ⟨g, cap, rfl, h.rowOwn g rfl⟩
    rw [hv] at cG
    have hgl := (h.mine g (by rw [hgo]; decide)).2
    have hrow := h.row
    rw [hv] at hrow
    refine step_at (fun _ w' => After At DP B G D (n + 1) w w') o w g bs.length cap b1 b10 b11 ron cG hGl hgl hz (Nat.le_trans hg.len hn) ?_
    intro k hk
    have hi : bs[k]? = some bs[k] := List.getElem?_eq_getElem hk
    generalize bs[k] = b at hi
    have hmem : b ∈ bs := List.mem_of_getElem? hi
    obtain ⟨hcx, hl⟩ := hg.each b hmem
    have c0 : w.cell? ⟨g, k * 2, none⟩ = some (.pointer (some ⟨b.x, 0, none⟩)) := by
      rw [World.ownsRow.cellAt hrow (k * 2) (by omega)]
      exact bks_get bs k 0 b hi (by omega)
    have c1 : w.cell? ⟨g, k * 2 + 1, none⟩ = some (.pointer (some ⟨b.r, 0, none⟩)) := by
      rw [World.ownsRow.cellAt hrow (k * 2 + 1) (by omega)]
      exact bks_get bs k 1 b hi (by omega)
    refine ⟨b.x, b.r, c0, c1, fun w1 hb => ?_⟩
    have hI := h.quiet hC hD hb
    have hB' : B ≤ w1.heap.size := Nat.le_trans hB hb.size
    rw [if_neg (by omega), if_neg (by omega)]
    exact (asked_sta hC hS hD own k b o w1 hI hi hcx (Nat.le_trans hl hn) h9).mono fun e w' ⟨he, hb'⟩ => ⟨he, v, bs, own, hI.quiet hC hD hb', hg.mono (Nat.le_succ _), (hb.mono hB).trans (hb'.mono hB')⟩
end

end Go.Proofs.Ythkndfkkgncjfab
