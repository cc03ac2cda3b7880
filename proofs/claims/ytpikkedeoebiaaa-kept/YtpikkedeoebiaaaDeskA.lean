/- A desk: an index, and what the caller knows to be there. -/
import Derived.Test.YtpikkedeoebiaaaRefS
import Derived.Test.YtpikkedeoebiaaaDocE
namespace Go.Proofs.Ytpikkedeoebiaaa
open Go.RowKit
set_option maxRecDepth 100000

/-- what an index serves, for at most so many changes -/
structure Keeps (M : Nat) (At : World → Nat → Int → Int → Int → List Do.Chg → (Nat → Prop) → Prop) (new ins del ext cnt loc lst ver : Nat) : Prop where
  lt : ∀ {w x a b p cs F}, At w x a b p cs F → ∀ k, F k → k < w.heap.size
  frame : ∀ {w w' x a b p cs F}, At w x a b p cs F → w.heap.size ≤ w'.heap.size → (∀ k, F k → w'.heap[k]? = w.heap[k]?) → At w' x a b p cs F
  wide : ∀ {w x a b p cs F G}, At w x a b p cs F → (∀ k, F k → G k) → (∀ k, G k → k < w.heap.size) → At w x a b p cs G
  new_ok : ∀ (a b p : Int) (w : World), okc a b p → Calls Try.prog new #[.agg #[.int .i64 a, .int .i64 b, .int .i64 p]] w fun e w' => ∃ x F, e = .returned (.tuple #[.pointer (some ⟨x, 0, none⟩), .int .i64 0]) ∧ At w' x a b p [] F ∧ (∀ k, F k → w.heap.size ≤ k) ∧ Below w.heap.size w w'
  insert : ∀ {w x a b p cs F} (s : ByteArray), cs.length ≤ M → s.size ≤ 9223372036854775807 → At w x a b p cs F → Calls Try.prog ins #[.pointer (some ⟨x, 0, none⟩), .string s] w fun e w' => e = .returned (.tuple #[.int .i64 (insRes cs a s).1, .int .i64 (insRes cs a s).2.1]) ∧ Only F w w' ∧ ∃ G, At w' x a b p (insRes cs a s).2.2 G ∧ ∀ k, G k → F k ∨ w.heap.size ≤ k
  delete : ∀ {w x a b p cs F} (id : Int), cs.length ≤ M → inR id → At w x a b p cs F → Calls Try.prog del #[.pointer (some ⟨x, 0, none⟩), .int .i64 id] w fun e w' => e = .returned (.int .i64 (delRes cs id).1) ∧ Only F w w' ∧ ∃ G, At w' x a b p (delRes cs id).2 G ∧ ∀ k, G k → F k ∨ w.heap.size ≤ k
  extract : ∀ {w x a b p cs F} (id f t : Int), cs.length ≤ M → inR id → inR f → inR t → At w x a b p cs F → Calls Try.prog ext #[.pointer (some ⟨x, 0, none⟩), .int .i64 id, .int .i64 f, .int .i64 t] w fun e w' => e = .returned (.tuple #[.string (exRes (Do.there cs) id f t).1, .int .i64 (exRes (Do.there cs) id f t).2]) ∧ Below w.heap.size w w'
  count : ∀ {w x a b p cs F} (s : ByteArray), cs.length ≤ M → s.size ≤ 9223372036854775807 → At w x a b p cs F → Calls Try.prog cnt #[.pointer (some ⟨x, 0, none⟩), .string s] w fun e w' => e = .returned (.tuple #[.int .i64 (cntRes cs s).1, .int .i64 (cntRes cs s).2]) ∧ Below w.heap.size w w'
  locate : ∀ {w x a b p cs F} (s : ByteArray) (n i t : Int), cs.length ≤ M → s.size ≤ 9223372036854775807 → inR n → inR i → inR t → At w x a b p cs F → Calls Try.prog loc #[.pointer (some ⟨x, 0, none⟩), .string s, .int .i64 n, .int .i64 i, .int .i64 t] w fun e w' => ∃ v, e = .returned (.tuple #[v, .bool (locRes cs p s n i t).2.1, .int .i64 (locRes cs p s n i t).2.2]) ∧ OwnO w' w.heap.size v (locRes cs p s n i t).1 ∧ Below w.heap.size w w'
  list : ∀ {w x a b p cs F} (t n : Int), cs.length ≤ M → inR t → inR n → At w x a b p cs F → Calls Try.prog lst #[.pointer (some ⟨x, 0, none⟩), .int .i64 t, .int .i64 n] w fun e w' => ∃ v, e = .returned (.tuple #[v, .int .i64 (lstRes cs t n).2]) ∧ OwnV w' w.heap.size v (lstRes cs t n).1 ∧ Below w.heap.size w w'
  version : ∀ {w x a b p cs F}, cs.length ≤ M → At w x a b p cs F → Calls Try.prog ver #[.pointer (some ⟨x, 0, none⟩)] w fun e w' => e = .returned (.int .i64 (cs.length : Int)) ∧ Below w.heap.size w w'

/-- changes as they come of calls: ids rise, documents are short, few are there -/
structure Fair (cs : List Do.Chg) : Prop where
  docs : ∀ c ∈ Do.there cs, c.doc.size ≤ 40
  few : (Do.there cs).length ≤ 60
  rise : (Do.there cs).Pairwise fun c d => c.id < d.id
  next : ∀ c ∈ Do.there cs, c.id < insTo cs cs.length

theorem insTo_same' (cs r : List Do.Chg) : ∀ k, k ≤ cs.length → insTo (cs ++ r) k = insTo cs k
  | 0, _ => rfl
  | k + 1, hk => by
    rw [insTo, insTo, insTo_same' cs r k (by omega), List.getElem?_append_left (by omega)]
theorem insTo_more' (cs : List Do.Chg) (c : Do.Chg) : insTo (cs ++ [c]) (cs ++ [c]).length = insTo cs cs.length + (if c.ins then 1 else 0) := by
  rw [List.length_append, List.length_singleton, insTo_succ (cs ++ [c]) cs.length c (by simp), insTo_same' cs [c] _ (Nat.le_refl _)]

theorem Fair.nil : Fair [] := ⟨by intro c hc; simp [Do.there, Do.thereTo] at hc, by decide, List.Pairwise.nil, by intro c hc; simp [Do.there, Do.thereTo] at hc⟩
theorem Fair.ins {cs : List Do.Chg} (h : Fair cs) (a : Int) (s : ByteArray) : Fair (insRes cs a s).2.2 := by
  unfold insRes
  split
  · exact h
  · rename_i h1
    split
    · exact h
    · rename_i h2
      refine ⟨?_, ?_, ?_, ?_⟩
      · intro c hc
        rw [Do.there_ins _ _ rfl, List.mem_append] at hc
        rcases hc with hc | hc
        · exact h.docs c hc
        · simp at hc; subst hc; show s.size ≤ 40; omega
      · rw [Do.there_ins _ _ rfl]; simp; omega
      · rw [Do.there_ins _ _ rfl, List.pairwise_append]
        refine ⟨h.rise, List.pairwise_singleton _ _, fun c hc d hd => ?_⟩
        simp at hd; subst hd
        exact h.next c hc
      · intro c hc
        rw [insTo_more']
        rw [Do.there_ins _ _ rfl, List.mem_append] at hc
        rcases hc with hc | hc
        · have := h.next c hc; simp; omega
        · simp at hc; subst hc; simp
theorem Fair.del {cs : List Do.Chg} (h : Fair cs) (id : Int) : Fair (delRes cs id).2 := by
  unfold delRes
  split
  · exact h
  · split
    · exact h
    · refine ⟨?_, ?_, ?_, ?_⟩
      · intro c hc
        rw [Do.there_del _ _ rfl] at hc
        exact h.docs c (List.mem_filter.1 hc).1
      · rw [Do.there_del _ _ rfl]; exact Nat.le_trans (List.length_filter_le _ _) h.few
      · rw [Do.there_del _ _ rfl]; exact h.rise.filter _
      · intro c hc
        rw [Do.there_del _ _ rfl] at hc
        rw [insTo_more']
        have := h.next c (List.mem_filter.1 hc).1
        simp; exact this
theorem delRes_there {cs : List Do.Chg} (id : Int) : Do.there (delRes cs id).2 = Do.without (Do.there cs) id (Do.there cs).length := by
  unfold delRes
  cases hat : Do.at? (Do.there cs) id with
  | none =>
    unfold Do.at? at hat
    rw [List.findIdx?_eq_none_iff] at hat
    unfold Do.without
    rw [List.take_length]
    refine (List.filter_eq_self.2 fun c hc => ?_).symm
    rw [hat c hc]; rfl
  | some k =>
    obtain ⟨c, hc, hid⟩ := at_get _ _ _ hat
    subst hid
    simp only [hc]
    rw [Do.there_del _ _ rfl, Do.without_all]; rfl
theorem delRes_next {cs : List Do.Chg} (id : Int) : insTo (delRes cs id).2 (delRes cs id).2.length = insTo cs cs.length := by
  unfold delRes
  split
  · rfl
  · split
    · rfl
    · rw [insTo_more']; simp
theorem delRes_len' (cs : List Do.Chg) (id : Int) : (delRes cs id).2.length ≤ cs.length + 1 := by
  unfold delRes
  split
  · simp
  · split <;> simp
theorem insRes_len' (cs : List Do.Chg) (a : Int) (s : ByteArray) : (insRes cs a s).2.2.length ≤ cs.length + 1 := by
  unfold insRes
  split
  · simp
  · split <;> simp

/-- the row of documents -/
def SD (L : List Do.Chg) : List Value := L.map fun c => .string c.doc
def ID (L : List Do.Chg) : List Value := L.map fun c => .int .i64 (c.id : Int)
/-- a desk's cells -/
def DeskAt (w : World) (dk x : Nat) (a b p : Int) (vi vd : Value) (n z mv : Int) : Prop :=
  w.heap[dk]? = some (.cells #[.pointer (some ⟨x, 0, none⟩), .int .i64 a, .int .i64 b, .int .i64 p, vi, vd, .int .i64 n, .int .i64 z, .int .i64 mv] 61 (0, 0))
section
variable {w w' : World} {dk x : Nat} {a b p : Int} {vi vd : Value} {n z mv : Int}
theorem DeskAt.lt (h : DeskAt w dk x a b p vi vd n z mv) : dk < w.heap.size := lt_of_block h
theorem DeskAt.same (h : DeskAt w dk x a b p vi vd n z mv) (e : w'.heap[dk]? = w.heap[dk]?) : DeskAt w' dk x a b p vi vd n z mv := e.trans h
theorem DeskAt.c0 (h : DeskAt w dk x a b p vi vd n z mv) : w.cell? ⟨dk, 0, none⟩ = some (.pointer (some ⟨x, 0, none⟩)) := by rw [cell_of_row w dk 0 _ 61 (0, 0) h]; rfl
theorem DeskAt.c1 (h : DeskAt w dk x a b p vi vd n z mv) : w.cell? ⟨dk, 1, none⟩ = some (.int .i64 a) := by rw [cell_of_row w dk 1 _ 61 (0, 0) h]; rfl
theorem DeskAt.c3 (h : DeskAt w dk x a b p vi vd n z mv) : w.cell? ⟨dk, 3, none⟩ = some (.int .i64 p) := by rw [cell_of_row w dk 3 _ 61 (0, 0) h]; rfl
theorem DeskAt.c4 (h : DeskAt w dk x a b p vi vd n z mv) : w.cell? ⟨dk, 4, none⟩ = some vi := by rw [cell_of_row w dk 4 _ 61 (0, 0) h]; rfl
theorem DeskAt.c5 (h : DeskAt w dk x a b p vi vd n z mv) : w.cell? ⟨dk, 5, none⟩ = some vd := by rw [cell_of_row w dk 5 _ 61 (0, 0) h]; rfl
theorem DeskAt.c6 (h : DeskAt w dk x a b p vi vd n z mv) : w.cell? ⟨dk, 6, none⟩ = some (.int .i64 n) := by rw [cell_of_row w dk 6 _ 61 (0, 0) h]; rfl
theorem DeskAt.c7 (h : DeskAt w dk x a b p vi vd n z mv) : w.cell? ⟨dk, 7, none⟩ = some (.int .i64 z) := by rw [cell_of_row w dk 7 _ 61 (0, 0) h]; rfl
theorem DeskAt.c8 (h : DeskAt w dk x a b p vi vd n z mv) : w.cell? ⟨dk, 8, none⟩ = some (.int .i64 mv) := by rw [cell_of_row w dk 8 _ 61 (0, 0) h]; rfl
theorem DeskAt.free (h : DeskAt w dk x a b p vi vd n z mv) (j : Nat) : w.frozen? ⟨dk, j, none⟩ = false := frozen_of_row w dk j _ 61 h
theorem DeskAt.set4 (h : DeskAt w dk x a b p vi vd n z mv) (u : Value) : DeskAt (w.setCell ⟨dk, 4, none⟩ u) dk x a b p u vd n z mv := (heap_setCell_same w dk 4 _ 61 _ h).trans rfl
theorem DeskAt.set5 (h : DeskAt w dk x a b p vi vd n z mv) (u : Value) : DeskAt (w.setCell ⟨dk, 5, none⟩ u) dk x a b p vi u n z mv := (heap_setCell_same w dk 5 _ 61 _ h).trans rfl
theorem DeskAt.set6 (h : DeskAt w dk x a b p vi vd n z mv) (u : Int) : DeskAt (w.setCell ⟨dk, 6, none⟩ (.int .i64 u)) dk x a b p vi vd u z mv := (heap_setCell_same w dk 6 _ 61 _ h).trans rfl
theorem DeskAt.set7 (h : DeskAt w dk x a b p vi vd n z mv) (u : Int) : DeskAt (w.setCell ⟨dk, 7, none⟩ (.int .i64 u)) dk x a b p vi vd n u mv := (heap_setCell_same w dk 7 _ 61 _ h).trans rfl
theorem DeskAt.set8 (h : DeskAt w dk x a b p vi vd n z mv) (u : Int) : DeskAt (w.setCell ⟨dk, 8, none⟩ (.int .i64 u)) dk x a b p vi vd n z u := (heap_setCell_same w dk 8 _ 61 _ h).trans rfl
/-- a row of single cells of another type than the desk's -/
theorem DeskAt.apart (h : DeskAt w dk x a b p vi vd n z mv) {B m : Nat} {e : TypeId} {sz : Nat} {v : Value} {xs : List Value} (k : w.ownsRow B e sz v m xs) (he : e ≠ 61) : v.ownBlock ≠ some dk := by
  intro e'
  rcases k.2 with ⟨h2, _⟩ | ⟨g2, cap2, cur2, h2, _, hg2, _⟩
  · rw [h2] at e'; simp [Value.ownBlock] at e'
  · rw [h2] at e'
    simp [Value.ownBlock] at e'
    rw [e', h] at hg2
    simp at hg2
    exact he hg2.2.symm
end

/-- a desk, whole: its blocks told -/
structure DeskIn (At : World → Nat → Int → Int → Int → List Do.Chg → (Nat → Prop) → Prop) (w : World) (dk x : Nat) (a b p : Int) (cs : List Do.Chg) (mv : Int) (vi vd : Value) (F G : Nat → Prop) : Prop where
  blk : DeskAt w dk x a b p vi vd (insTo cs cs.length : Nat) (Do.size (Do.there cs) : Nat) mv
  ri : w.ownsRow 0 3 1 vi (Do.there cs).length (ID (Do.there cs))
  rd : w.ownsRow 0 9 1 vd (Do.there cs).length (SD (Do.there cs))
  idx : At w x a b p cs F
  fair : Fair cs
  conf : okc a b p
  nd : ¬ F dk
  ni : ∀ g, vi.ownBlock = some g → ¬ F g
  nv : ∀ g, vd.ownBlock = some g → ¬ F g
  gd : G dk
  gf : ∀ k, F k → G k
  gi : ∀ g, vi.ownBlock = some g → G g
  gv : ∀ g, vd.ownBlock = some g → G g
  lt : ∀ k, G k → k < w.heap.size
def Desk (At : World → Nat → Int → Int → Int → List Do.Chg → (Nat → Prop) → Prop) (w : World) (dk : Nat) (a b p : Int) (cs : List Do.Chg) (mv : Int) (G : Nat → Prop) : Prop := ∃ x vi vd F, DeskIn At w dk x a b p cs mv vi vd F G

section
variable {M : Nat} {At : World → Nat → Int → Int → Int → List Do.Chg → (Nat → Prop) → Prop} {w w' : World} {dk x : Nat} {a b p : Int} {cs : List Do.Chg} {mv : Int} {vi vd : Value} {F G : Nat → Prop}
theorem row_kept {e : TypeId} {size n : Nat} {xs : List Value} {b0 : Nat} {u : Value} (h : w.ownsRow b0 e size u n xs) (hf : ∀ g, u.ownBlock = some g → w'.heap[g]? = w.heap[g]?) : w'.ownsRow b0 e size u n xs := by
  refine ⟨h.1, ?_⟩
  rcases h.2 with hn | ⟨g, cap, cur, rfl, hB, hg, rest⟩
  · exact .inl hn
  · exact .inr ⟨g, cap, cur, rfl, hB, by rw [hf g rfl]; exact hg, rest⟩
theorem DeskIn.frame (hC : Keeps M At 67 73 74 28 34 36 56 35) (h : DeskIn At w dk x a b p cs mv vi vd F G) (hs : w.heap.size ≤ w'.heap.size) (hf : ∀ k, G k → w'.heap[k]? = w.heap[k]?) : DeskIn At w' dk x a b p cs mv vi vd F G where
  blk := h.blk.same (hf dk h.gd)
  ri := row_kept h.ri fun g hg => hf g (h.gi g hg)
  rd := row_kept h.rd fun g hg => hf g (h.gv g hg)
  idx := hC.frame h.idx hs fun k hk => hf k (h.gf k hk)
  fair := h.fair
  conf := h.conf
  nd := h.nd
  ni := h.ni
  nv := h.nv
  gd := h.gd
  gf := h.gf
  gi := h.gi
  gv := h.gv
  lt k hk := Nat.lt_of_lt_of_le (h.lt k hk) hs
theorem DeskIn.quiet (hC : Keeps M At 67 73 74 28 34 36 56 35) (h : DeskIn At w dk x a b p cs mv vi vd F G) (hb : Below w.heap.size w w') : DeskIn At w' dk x a b p cs mv vi vd F G := h.frame hC hb.size fun k hk => hb.block k (h.lt k hk)
theorem Desk.frame (hC : Keeps M At 67 73 74 28 34 36 56 35) (h : Desk At w dk a b p cs mv G) (hs : w.heap.size ≤ w'.heap.size) (hf : ∀ k, G k → w'.heap[k]? = w.heap[k]?) : Desk At w' dk a b p cs mv G := by
  obtain ⟨x, vi, vd, F, h⟩ := h
  exact ⟨x, vi, vd, F, h.frame hC hs hf⟩
theorem Desk.quiet (hC : Keeps M At 67 73 74 28 34 36 56 35) (h : Desk At w dk a b p cs mv G) (hb : Below w.heap.size w w') : Desk At w' dk a b p cs mv G := by
  obtain ⟨x, vi, vd, F, h⟩ := h
  exact ⟨x, vi, vd, F, h.quiet hC hb⟩
theorem Desk.lt (h : Desk At w dk a b p cs mv G) : ∀ k, G k → k < w.heap.size := by
  obtain ⟨x, vi, vd, F, h⟩ := h
  exact h.lt
/-- what a change of the desk leaves -/
def Moved (At : World → Nat → Int → Int → Int → List Do.Chg → (Nat → Prop) → Prop) (dk : Nat) (a b p : Int) (cs' : List Do.Chg) (mv' : Int) (G : Nat → Prop) (w w' : World) : Prop :=
  Only G w w' ∧ ∃ G', Desk At w' dk a b p cs' mv' G' ∧ ∀ k, G' k → G k ∨ w.heap.size ≤ k
end

end Go.Proofs.Ytpikkedeoebiaaa
