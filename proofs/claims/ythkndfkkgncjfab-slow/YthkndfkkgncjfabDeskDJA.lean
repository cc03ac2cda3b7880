/- DeskA, DeskB, DeskC, DeskD. -/
import Derived.Test.YthkndfkkgncjfabRefSJC
import Derived.Test.YthkndfkkgncjfabFolGJA
import Derived.Deep.RegionHeld3
namespace Go.Proofs.Ythkndfkkgncjfab
open Go.RowKit
set_option maxRecDepth 100000

/-- what an index serves, for at most so many changes -/
structure Keeps (M : Nat) (At : World → Nat → Int → Int → Int → List Do.Chg → (Nat → Prop) → Prop) (new ins del ext cnt loc lst ver : Nat) : Prop where
  lt : ∀ {w x a b p cs F}, At w x a b p cs F → ∀ k, F k → k < w.heap.size
  frame : ∀ {w w' x a b p cs F}, At w x a b p cs F → w.heap.size ≤ w'.heap.size → (∀ k, F k → w'.heap[k]? = w.heap[k]?) → At w' x a b p cs F
  wide : ∀ {w x a b p cs F G}, At w x a b p cs F → (∀ k, F k → G k) → (∀ k, G k → k < w.heap.size) → At w x a b p cs G
  new_ok : ∀ (a b p : Int) (w : World), okc a b p → Calls Try.prog new #[.agg #[.int .i64 a, .int .i64 b, .int .i64 p]] w fun e w' => ∃ x F, e = .returned (.tuple #[.pointer (some ⟨x, 0, none⟩), .int .i64 0]) ∧ At w' x a b p [] F ∧ (∀ k, F k → w.heap.size ≤ k) ∧ Below w.heap.size w w'
  insert : ∀ {w x a b p cs F} (s : ByteArray), cs.length ≤ M → s.size ≤ 9223372036854775807 → At w x a b p cs F → Calls Try.prog ins #[.pointer (some ⟨x, 0, none⟩), .string s] w fun e w' => e = .returned (.tuple #[.int .i64 (insRes cs a s).1, .int .i64 (insRes cs a s).2.1]) ∧ Only F w w' ∧ ∃ G, At w' x a b p (insRes cs a s).2.2 G ∧ ∀ k, G k → F k ∨ w.heap.size ≤ k
  delete : ∀ {w x a b p cs F} (id : Int), cs.length ≤ M → inR id → At w x a b p cs F → Calls Try.prog del #[.pointer (some ⟨x, 0, none⟩), .int .i64 id] w fun e w' => e = .returned (.int .i64 (delRes cs id).1) ∧ Only F w w' ∧ ∃ G, At w' x a b p (delRes cs id).2 G ∧ ∀ k, G k → F k ∨ w.heap.size ≤ k
  extract : ∀ {w x a b p cs F} (id f t : Int), cs.length ≤ M → inR id → inR f → inR t → At w x a b p cs F → Calls Try.prog ext #[.pointer (some ⟨x, 0, none⟩), .int .i64 id, .int .i64 f, .int .i64 t] w fun e w' => e = .returned (.tuple #[.string (exRes (Do.there cs) id f t).1, .int .i64 (exRes (Do.there cs) id f t).2]) ∧ Below w.heap.size w w'
  count : ∀ {w x a b p cs F} (s : ByteArray), cs.length ≤ M → s.size ≤ 9223372036854775807 → At w x a b p cs F → Calls Try.prog cnt #[.pointer (some ⟨x, 0, none⟩), .string s] w fun e w' => e = .returned (.tuple #[.int .i64 (cntRes cs s).1, .int .i64 (cntRes cs s).2]) ∧ Below w.heap.size w w'
  locate : ∀ {w x a b p cs F} (s : ByteArray) (n i t : Int), cs.length ≤ M → s.size ≤ 9223372036854775807 → inR n → inR i → inR t → At w x a b p cs F → Calls Try.prog loc #[.pointer (some ⟨x, 0, none⟩), .string s, .int .i64 n, .int .i64 i, .int .i64 t] w fun e w' => ∃ v, e = .returned (.tuple #[v, .bool (locRes cs p s n i t).2.1, .int .i64 (locRes cs p s n i t).2.2]) ∧ OwnO w' w.heap.size v (locRes cs p s n i t).1 ∧ Below w.heap.size w w'
  list : ∀ {w x a b p cs F} (t n : Int), cs.length ≤ M → inR t → inR n → At w x a b p cs F → Calls Try.prog lst #[.pointer (some ⟨x, 0, none⟩), .int .i64 t, .int .i64 n] w fun e w' => ∃ v, e = .returned (.tuple #[v, .int .i64 (lstRes cs t n).2]) ∧ OwnV w' w.heap.size v (lstRes cs t n).1 ∧ Below w.heap.size w w'
  version : ∀ {w x a b p cs F}, cs.length ≤ M → At w x a b p cs F → Calls Try.prog ver #[.pointer (some ⟨x, 0, none⟩)] w fun e w' => e = .returned (.int .i64 (cs.length : Int)) ∧ Below w.heap.size w w'

/-- changes as they come of calls: ids rise, documents are short, few are there -/
structure Fair (cs : List Do.Chg) : Prop where
  docs : ∀ c ∈ Do.there cs, c.doc.size ≤ 40
  few : (Do.there cs).length ≤ 60
  rise : (Do.there cs).Pairwise fun c d => c.id < d.id
  next : ∀ c ∈ Do.there cs, c.id < insTo cs cs.length

theorem insTo_same' (cs r : List Do.Chg) : ∀ k, k ≤ cs.length → insTo (cs ++ r) k = insTo cs k
  | 0, _ => rfl
  | k + 1, hk => by
    rw [insTo, insTo, insTo_same' cs r k (by omega), List.getElem?_append_left (by omega)]
theorem insTo_more' (cs : List Do.Chg) (c : Do.Chg) : insTo (cs ++ [c]) (cs ++ [c]).length = insTo cs cs.length + (if c.ins then 1 else 0) := by
  rw [List.length_append, List.length_singleton, insTo_succ (cs ++ [c]) cs.length c (by simp), insTo_same' cs [c] _ (Nat.le_refl _)]

theorem Fair.nil : Fair [] := ⟨by intro c hc; simp [Do.there, Do.thereTo] at hc, by decide, List.Pairwise.nil, by intro c hc; simp [Do.there, Do.thereTo] at hc⟩
theorem Fair.ins {cs : List Do.Chg} (h : Fair cs) (a : Int) (s : ByteArray) : Fair (insRes cs a s).2.2 := by
  unfold insRes
  split
  · exact h
  · rename_i h1
    split
    · exact h
    · rename_i h2
      refine ⟨?_, ?_, ?_, ?_⟩
      · intro c hc
        rw [Do.there_ins _ _ rfl, List.mem_append] at hc
        rcases hc with hc | hc
        · exact h.docs c hc
        · simp at hc; subst hc; show s.size ≤ 40; omega
      · rw [Do.there_ins _ _ rfl]; simp; omega
      · rw [Do.there_ins _ _ rfl, List.pairwise_append]
        refine ⟨h.rise, List.pairwise_singleton _ _, fun c hc d hd => ?_⟩
        simp at hd; subst hd
        exact h.next c hc
      · intro c hc
        rw [insTo_more']
        rw [Do.there_ins _ _ rfl, List.mem_append] at hc
        rcases hc with hc | hc
        · have := h.next c hc; simp; omega
        · simp at hc; subst hc; simp
theorem Fair.del {cs : List Do.Chg} (h : Fair cs) (id : Int) : Fair (delRes cs id).2 := by
  unfold delRes
  split
  · exact h
  · split
    · exact h
    · refine ⟨?_, ?_, ?_, ?_⟩
      · intro c hc
        rw [Do.there_del _ _ rfl] at hc
        exact h.docs c (List.mem_filter.1 hc).1
      · rw [Do.there_del _ _ rfl]; exact Nat.le_trans (List.length_filter_le _ _) h.few
      · rw [Do.there_del _ _ rfl]; exact h.rise.filter _
      · intro c hc
        rw [Do.there_del _ _ rfl] at hc
        rw [insTo_more']
        have := h.next c (List.mem_filter.1 hc).1
        simp; exact this
theorem delRes_there {cs : List Do.Chg} (id : Int) : Do.there (delRes cs id).2 = Do.without (Do.there cs) id (Do.there cs).length := by
  unfold delRes
  cases hat : Do.at? (Do.there cs) id with
  | none =>
    unfold Do.at? at hat
    rw [List.findIdx?_eq_none_iff] at hat
    unfold Do.without
    rw [List.take_length]
    refine (List.filter_eq_self.2 fun c hc => ?_).symm
    rw [hat c hc]; rfl
  | some k =>
    obtain ⟨c, hc, hid⟩ := at_get _ _ _ hat
    subst hid
    simp only [hc]
    rw [Do.there_del _ _ rfl, Do.without_all]; rfl
theorem delRes_next {cs : List Do.Chg} (id : Int) : insTo (delRes cs id).2 (delRes cs id).2.length = insTo cs cs.length := by
  unfold delRes
  split
  · rfl
  · split
    · rfl
    · rw [insTo_more']; simp
theorem delRes_len' (cs : List Do.Chg) (id : Int) : (delRes cs id).2.length ≤ cs.length + 1 := by
  unfold delRes
  split
  · simp
  · split <;> simp
theorem insRes_len' (cs : List Do.Chg) (a : Int) (s : ByteArray) : (insRes cs a s).2.2.length ≤ cs.length + 1 := by
  unfold insRes
  split
  · simp
  · split <;> simp

/-- the row of documents -/
def SD (L : List Do.Chg) : List Value := L.map fun c => .string c.doc
def ID (L : List Do.Chg) : List Value := L.map fun c => .int .i64 (c.id : Int)
/-- a desk's cells -/
def DeskAt (w : World) (dk x : Nat) (a b p : Int) (vi vd : Value) (n z mv : Int) : Prop :=
  w.heap[dk]? = some (.cells #[.pointer (some ⟨x, 0, none⟩), .int .i64 a, .int .i64 b, .int .i64 p, vi, vd, .int .i64 n, .int .i64 z, .int .i64 mv] 38 (0, 0))
section
variable {w w' : World} {dk x : Nat} {a b p : Int} {vi vd : Value} {n z mv : Int}
theorem DeskAt.lt (h : DeskAt w dk x a b p vi vd n z mv) : dk < w.heap.size := lt_of_block h
theorem DeskAt.same (h : DeskAt w dk x a b p vi vd n z mv) (e : w'.heap[dk]? = w.heap[dk]?) : DeskAt w' dk x a b p vi vd n z mv := e.trans h
theorem DeskAt.c0 (h : DeskAt w dk x a b p vi vd n z mv) : w.cell? ⟨dk, 0, none⟩ = some (.pointer (some ⟨x, 0, none⟩)) := by rw [cell_of_row w dk 0 _ 38 (0, 0) h]; rfl
theorem DeskAt.c1 (h : DeskAt w dk x a b p vi vd n z mv) : w.cell? ⟨dk, 1, none⟩ = some (.int .i64 a) := by rw [cell_of_row w dk 1 _ 38 (0, 0) h]; rfl
theorem DeskAt.c3 (h : DeskAt w dk x a b p vi vd n z mv) : w.cell? ⟨dk, 3, none⟩ = some (.int .i64 p) := by rw [cell_of_row w dk 3 _ 38 (0, 0) h]; rfl
theorem DeskAt.c4 (h : DeskAt w dk x a b p vi vd n z mv) : w.cell? ⟨dk, 4, none⟩ = some vi := by rw [cell_of_row w dk 4 _ 38 (0, 0) h]; rfl
theorem DeskAt.c5 (h : DeskAt w dk x a b p vi vd n z mv) : w.cell? ⟨dk, 5, none⟩ = some vd := by rw [cell_of_row w dk 5 _ 38 (0, 0) h]; rfl
theorem DeskAt.c6 (h : DeskAt w dk x a b p vi vd n z mv) : w.cell? ⟨dk, 6, none⟩ = some (.int .i64 n) := by rw [cell_of_row w dk 6 _ 38 (0, 0) h]; rfl
theorem DeskAt.c7 (h : DeskAt w dk x a b p vi vd n z mv) : w.cell? ⟨dk, 7, none⟩ = some (.int .i64 z) := by rw [cell_of_row w dk 7 _ 38 (0, 0) h]; rfl
theorem DeskAt.c8 (h : DeskAt w dk x a b p vi vd n z mv) : w.cell? ⟨dk, 8, none⟩ = some (.int .i64 mv) := by rw [cell_of_row w dk 8 _ 38 (0, 0) h]; rfl
theorem DeskAt.free (h : DeskAt w dk x a b p vi vd n z mv) (j : Nat) : w.frozen? ⟨dk, j, none⟩ = false := frozen_of_row w dk j _ 38 h
theorem DeskAt.set4 (h : DeskAt w dk x a b p vi vd n z mv) (u : Value) : DeskAt (w.setCell ⟨dk, 4, none⟩ u) dk x a b p u vd n z mv := (heap_setCell_same w dk 4 _ 38 _ h).trans rfl
theorem DeskAt.set5 (h : DeskAt w dk x a b p vi vd n z mv) (u : Value) : DeskAt (w.setCell ⟨dk, 5, none⟩ u) dk x a b p vi u n z mv := (heap_setCell_same w dk 5 _ 38 _ h).trans rfl
theorem DeskAt.set6 (h : DeskAt w dk x a b p vi vd n z mv) (u : Int) : DeskAt (w.setCell ⟨dk, 6, none⟩ (.int .i64 u)) dk x a b p vi vd u z mv := (heap_setCell_same w dk 6 _ 38 _ h).trans rfl
theorem DeskAt.set7 (h : DeskAt w dk x a b p vi vd n z mv) (u : Int) : DeskAt (w.setCell ⟨dk, 7, none⟩ (.int .i64 u)) dk x a b p vi vd n u mv := (heap_setCell_same w dk 7 _ 38 _ h).trans rfl
theorem DeskAt.set8 (h : DeskAt w dk x a b p vi vd n z mv) (u : Int) : DeskAt (w.setCell ⟨dk, 8, none⟩ (.int .i64 u)) dk x a b p vi vd n z u := (heap_setCell_same w dk 8 _ 38 _ h).trans rfl
/-- a row of single cells of another type than the desk's -/
theorem DeskAt.apart (h : DeskAt w dk x a b p vi vd n z mv) {B m : Nat} {e : TypeId} {sz : Nat} {v : Value} {xs : List Value} (k : w.ownsRow B e sz v m xs) (he : e ≠ 38) : v.ownBlock ≠ some dk := by
  intro e'
  rcases k.2 with ⟨h2, _⟩ | ⟨g2, cap2, cur2, h2, _, hg2, _⟩
  · rw [h2] at e'; simp [Value.ownBlock] at e'
  · rw [h2] at e'
    simp [Value.ownBlock] at e'
    rw [e', h] at hg2
    simp at hg2
    exact he hg2.2.symm
end

/-- a desk, whole: its blocks told -/
structure DeskIn (At : World → Nat → Int → Int → Int → List Do.Chg → (Nat → Prop) → Prop) (w : World) (dk x : Nat) (a b p : Int) (cs : List Do.Chg) (mv : Int) (vi vd : Value) (F G : Nat → Prop) : Prop where
  blk : DeskAt w dk x a b p vi vd (insTo cs cs.length : Nat) (Do.size (Do.there cs) : Nat) mv
  ri : w.ownsRow 0 3 1 vi (Do.there cs).length (ID (Do.there cs))
  rd : w.ownsRow 0 9 1 vd (Do.there cs).length (SD (Do.there cs))
  idx : At w x a b p cs F
  fair : Fair cs
  conf : okc a b p
  nd : ¬ F dk
  ni : ∀ g, vi.ownBlock = some g → ¬ F g
  nv : ∀ g, vd.ownBlock = some g → ¬ F g
  gd : G dk
  gf : ∀ k, F k → G k
  gi : ∀ g, vi.ownBlock = some g → G g
  gv : ∀ g, vd.ownBlock = some g → G g
  lt : ∀ k, G k → k < w.heap.size
def Desk (At : World → Nat → Int → Int → Int → List Do.Chg → (Nat → Prop) → Prop) (w : World) (dk : Nat) (a b p : Int) (cs : List Do.Chg) (mv : Int) (G : Nat → Prop) : Prop := ∃ x vi vd F, DeskIn At w dk x a b p cs mv vi vd F G

section
variable {M : Nat} {At : World → Nat → Int → Int → Int → List Do.Chg → (Nat → Prop) → Prop} {w w' : World} {dk x : Nat} {a b p : Int} {cs : List Do.Chg} {mv : Int} {vi vd : Value} {F G : Nat → Prop}
theorem row_kept {e : TypeId} {size n : Nat} {xs : List Value} {b0 : Nat} {u : Value} (h : w.ownsRow b0 e size u n xs) (hf : ∀ g, u.ownBlock = some g → w'.heap[g]? = w.heap[g]?) : w'.ownsRow b0 e size u n xs := by
  refine ⟨h.1, ?_⟩
  rcases h.2 with hn | ⟨g, cap, cur, rfl, hB, hg, rest⟩
  · exact .inl hn
  · exact .inr ⟨g, cap, cur, rfl, hB, by rw [hf g rfl]; exact hg, rest⟩
theorem DeskIn.frame (hC : Keeps M At 28 21 23 60 62 20 58 11) (h : DeskIn At w dk x a b p cs mv vi vd F G) (hs : w.heap.size ≤ w'.heap.size) (hf : ∀ k, G k → w'.heap[k]? = w.heap[k]?) : DeskIn At w' dk x a b p cs mv vi vd F G where
  blk := h.blk.same (hf dk h.gd)
  ri := row_kept h.ri fun g hg => hf g (h.gi g hg)
  rd := row_kept h.rd fun g hg => hf g (h.gv g hg)
  idx := hC.frame h.idx hs fun k hk => hf k (h.gf k hk)
  fair := h.fair
  conf := h.conf
  nd := h.nd
  ni := h.ni
  nv := h.nv
  gd := h.gd
  gf := h.gf
  gi := h.gi
  gv := h.gv
  lt k hk := Nat.lt_of_lt_of_le (h.lt k hk) hs
theorem DeskIn.quiet (hC : Keeps M At 28 21 23 60 62 20 58 11) (h : DeskIn At w dk x a b p cs mv vi vd F G) (hb : Below w.heap.size w w') : DeskIn At w' dk x a b p cs mv vi vd F G := h.frame hC hb.size fun k hk => hb.block k (h.lt k hk)
theorem Desk.frame (hC : Keeps M At 28 21 23 60 62 20 58 11) (h : Desk At w dk a b p cs mv G) (hs : w.heap.size ≤ w'.heap.size) (hf : ∀ k, G k → w'.heap[k]? = w.heap[k]?) : Desk At w' dk a b p cs mv G := by
  obtain ⟨x, vi, vd, F, h⟩ := h
  exact ⟨x, vi, vd, F, h.frame hC hs hf⟩
theorem Desk.quiet (hC : Keeps M At 28 21 23 60 62 20 58 11) (h : Desk At w dk a b p cs mv G) (hb : Below w.heap.size w w') : Desk At w' dk a b p cs mv G := by
  obtain ⟨x, vi, vd, F, h⟩ := h
  exact ⟨x, vi, vd, F, h.quiet hC hb⟩
theorem Desk.lt (h : Desk At w dk a b p cs mv G) : ∀ k, G k → k < w.heap.size := by
  obtain ⟨x, vi, vd, F, h⟩ := h
  exact h.lt
/-- what a change of the desk leaves -/
def Moved (At : World → Nat → Int → Int → Int → List Do.Chg → (Nat → Prop) → Prop) (dk : Nat) (a b p : Int) (cs' : List Do.Chg) (mv' : Int) (G : Nat → Prop) (w w' : World) : Prop :=
  Only G w w' ∧ ∃ G', Desk At w' dk a b p cs' mv' G' ∧ ∀ k, G' k → G k ∨ w.heap.size ≤ k
end

end Go.Proofs.Ythkndfkkgncjfab

namespace Go.Proofs.Ythkndfkkgncjfab
open Go.RowKit
set_option maxRecDepth 100000

theorem Try.info9 : (Try.prog.info? 9).map (fun i => (i.zero, i.size, i.bytes)) = some (some (.string ⟨#[]⟩), 1, 16) := by kernel_rfl

section
variable {M : Nat} {At : World → Nat → Int → Int → Int → List Do.Chg → (Nat → Prop) → Prop} {w w' : World} {dk x : Nat} {a b p : Int} {cs : List Do.Chg} {mv : Int} {vi vd : Value} {F G : Nat → Prop}

/-- the index has turned, and not the desk -/
theorem DeskIn.turned (h : DeskIn At w dk x a b p cs mv vi vd F G) (ho : Only F w w') : DeskAt w' dk x a b p vi vd (insTo cs cs.length : Nat) (Do.size (Do.there cs) : Nat) mv ∧ w'.ownsRow 0 3 1 vi (Do.there cs).length (ID (Do.there cs)) ∧ w'.ownsRow 0 9 1 vd (Do.there cs).length (SD (Do.there cs)) :=
  ⟨h.blk.same (ho.block dk (h.lt dk h.gd) h.nd), row_kept h.ri fun g hg => ho.block g (h.lt g (h.gi g hg)) (h.ni g hg), row_kept h.rd fun g hg => ho.block g (h.lt g (h.gv g hg)) (h.nv g hg)⟩

/-- an index that has turned, with the same changes -/
theorem DeskIn.refused (h : DeskIn At w dk x a b p cs mv vi vd F G) (ho : Only F w w') {Fn : Nat → Prop} (hi : At w' x a b p cs Fn) (hF : ∀ k, Fn k → F k ∨ w.heap.size ≤ k) (hl : ∀ k, Fn k → k < w'.heap.size) : Moved At dk a b p cs mv G w w' := by
  obtain ⟨t1, t2, t3⟩ := h.turned ho
  refine ⟨ho.mono h.gf, fun k => Fn k ∨ k = dk ∨ vi.ownBlock = some k ∨ vd.ownBlock = some k, ⟨x, vi, vd, Fn, ?_⟩, ?_⟩
  · have hn : ∀ k, k < w.heap.size → ¬ F k → ¬ Fn k := fun k h1 h2 h3 => by
      rcases hF k h3 with h4 | h4
      · exact h2 h4
      · omega
    exact {
      blk := t1
      ri := t2
      rd := t3
      idx := hi
      fair := h.fair
      conf := h.conf
      nd := hn dk (h.lt dk h.gd) h.nd
      ni := fun g hg => hn g (h.lt g (h.gi g hg)) (h.ni g hg)
      nv := fun g hg => hn g (h.lt g (h.gv g hg)) (h.nv g hg)
      gd := .inr (.inl rfl)
      gf := fun k hk => .inl hk
      gi := fun g hg => .inr (.inr (.inl hg))
      gv := fun g hg => .inr (.inr (.inr hg))
      lt := fun k hk => by
        rcases hk with hk | rfl | hk | hk
        · exact hl k hk
        · exact t1.lt
        · exact (World.ownsRow.lt t2 k hk).2
        · exact (World.ownsRow.lt t3 k hk).2 }
  · intro k hk
    rcases hk with hk | rfl | hk | hk
    · exact (hF k hk).imp (h.gf k) (fun h => h)
    · exact .inl h.gd
    · exact .inl (h.gi k hk)
    · exact .inl (h.gv k hk)

set_option maxHeartbeats 1000000 in
theorem dInserts_long (hC : Keeps M At 28 21 23 60 62 20 58 11) (s : ByteArray) (hm : cs.length ≤ M) (hs : s.size ≤ 9223372036854775807) (h : DeskIn At w dk x a b p cs mv vi vd F G) (h1 : 40 < s.size) :
    Calls Try.prog 12 #[.pointer (some ⟨dk, 0, none⟩), .string s] w fun e w' => e = .returned (.bool true) ∧ Moved At dk a b p cs mv G w w' := by
  have hI := hC.insert s hm hs h.idx
  have e1 : insRes cs a s = (0, 2, cs) := by unfold insRes; rw [if_pos h1]
  rw [e1] at hI
  have HI : Hid (Calls Try.prog 21 #[.pointer (some ⟨x, 0, none⟩), .string s] w fun e w' => e = .returned (.tuple #[.int .i64 0, .int .i64 2]) ∧ Only F w w' ∧ ∃ G, At w' x a b p cs G ∧ ∀ k, G k → F k ∨ w.heap.size ≤ k) := hI
  have c0 := h.blk.c0
  have d1 : decide ((40 : Int) < (s.size : Int)) = true := by rw [decide_eq_true_eq]; omega
  clear hI e1
  go_enter Try.func12, Try.ntmps12
  go_wp2_with fail
  refine HI.out.mono ?_
  rintro e w1 ⟨rfl, ho, Fn, hFn, hFm⟩
  have R := h.refused ho hFn hFm (hC.lt hFn)
  clear HI c0
  go_wp2_with fail
  go_ret
  exact ⟨rfl, R⟩

set_option maxHeartbeats 1000000 in
theorem dInserts_full (hC : Keeps M At 28 21 23 60 62 20 58 11) (s : ByteArray) (hm : cs.length ≤ M) (h : DeskIn At w dk x a b p cs mv vi vd F G) (h1 : s.size ≤ 40) (h2 : a < (Do.size (Do.there cs) : Int) + s.size ∨ 60 ≤ (Do.there cs).length) :
    Calls Try.prog 12 #[.pointer (some ⟨dk, 0, none⟩), .string s] w fun e w' => e = .returned (.bool true) ∧ Moved At dk a b p cs mv G w w' := by
  have hI := hC.insert s hm (by omega) h.idx
  have e1 : insRes cs a s = (0, 3, cs) := by unfold insRes; rw [if_neg (by omega), if_pos h2]
  rw [e1] at hI
  have HI : Hid (Calls Try.prog 21 #[.pointer (some ⟨x, 0, none⟩), .string s] w fun e w' => e = .returned (.tuple #[.int .i64 0, .int .i64 3]) ∧ Only F w w' ∧ ∃ G, At w' x a b p cs G ∧ ∀ k, G k → F k ∨ w.heap.size ≤ k) := hI
  have c0 := h.blk.c0
  have d1 : decide ((40 : Int) < (s.size : Int)) = false := by rw [decide_eq_false_iff_not]; omega
  have hsz : Do.size (Do.there cs) ≤ 40 * (Do.there cs).length := Do.sizeTo_le _ h.fair.docs _
  have hfew := h.fair.few
  clear hI e1
  go_enter Try.func12, Try.ntmps12
  go_wp2_with fail
  refine HI.out.mono ?_
  rintro e w1 ⟨rfl, ho, Fn, hFn, hFm⟩
  have HR : Hid (Moved At dk a b p cs mv G w w1) := h.refused ho hFn hFm (hC.lt hFn)
  obtain ⟨t1, t2, _⟩ := h.turned ho
  have HQ : Hid (∀ m, Moved At dk a b p cs mv G w (w1.drewN m)) := fun m => by
    have ho' : Only F w (w1.drewN m) := ho.trans (Only.of_below (below_drewN (Below.refl _ _) m))
    exact h.refused ho' (hC.frame hFn (Nat.le_refl _) (fun _ _ => rfl)) hFm (fun k hk => hC.lt hFn k hk)
  have c7 := t1.c7
  have c1 := t1.c1
  have c4 := t1.c4
  obtain ⟨ai, ci, rfl⟩ : ∃ ai ci, vi = .slice ai (Do.there cs).length ci := by
    rcases t2.2 with ⟨q1, q2⟩ | ⟨g, cap, cur, q1, _⟩
    · exact ⟨none, 0, by rw [q1, q2]⟩
    · exact ⟨_, cap, q1⟩
  clear HI c0 t1 t2 HR h ho hFn hFm
  generalize Do.size (Do.there cs) = z at *
  generalize (Do.there cs).length = len at *
  go_wp2_with fail
  by_cases h3 : a < (z : Int) + s.size
  · have d2 : decide (a < (z : Int) + (s.size : Int)) = true := by rw [decide_eq_true_eq]; exact h3
    go_quiet (fail)
    go_wp2
    go_ret
    exact ⟨rfl, HQ.out _⟩
  · have d2 : decide (a < (z : Int) + (s.size : Int)) = false := by rw [decide_eq_false_iff_not]; exact h3
    have d3 : decide ((60 : Int) ≤ (len : Int)) = true := by rw [decide_eq_true_eq]; omega
    go_quiet (fail)
    go_wp2
    go_ret
    exact ⟨rfl, HQ.out _⟩

theorem kinds_apartE {w : World} {v1 v2 : Value} {n1 n2 g b1 b2 s1 s2 : Nat} {x1 x2 : List Value} {t1 t2 : TypeId} (h1 : w.ownsRow b1 t1 s1 v1 n1 x1) (h2 : w.ownsRow b2 t2 s2 v2 n2 x2) (hne : t1 ≠ t2) (e1 : v1.ownBlock = some g) (e2 : v2.ownBlock = some g) : False := by
  rcases h1.2 with ⟨rfl, _⟩ | ⟨g1, _, _, rfl, _, hg1, _⟩
  · simp [Value.ownBlock] at e1
  · rcases h2.2 with ⟨rfl, _⟩ | ⟨g2, _, _, rfl, _, hg2, _⟩
    · simp [Value.ownBlock] at e2
    · simp [Value.ownBlock] at e1 e2
      rw [e1] at hg1
      rw [e2, hg1] at hg2
      simp at hg2
      exact hne hg2.2

theorem DeskAt.grown {W W' : World} {dk x : Nat} {a b p : Int} {vi vd : Value} {n z mv : Int} {o : Obj} {r : Option Nat} (h : DeskAt W dk x a b p vi vd n z mv) (hg : (W.alloc o).grownBy W' r) (hr : r ≠ some dk) : DeskAt W' dk x a b p vi vd n z mv :=
  h.same ((hg.block dk (by have := h.lt; simp; omega) (fun e => hr e.symm)).trans (Below.heap_alloc W o dk h.lt))

theorem size_append (L : List Do.Chg) (c : Do.Chg) : Do.size (L ++ [c]) = Do.size L + c.doc.size := by
  have h : ∀ k, k ≤ L.length → Do.sizeTo (L ++ [c]) k = Do.sizeTo L k := by
    intro k
    induction k with
    | zero => intro _; rfl
    | succ k ih =>
      intro hk
      rw [Do.sizeTo, Do.sizeTo, ih (by omega), List.getElem?_append_left (by omega)]
  unfold Do.size
  rw [List.length_append, List.length_singleton, Do.sizeTo_succ _ _ c (by simp), h _ (Nat.le_refl _)]

/-- behind an Insert that was taken: the desk's own book is kept -/
theorem DeskIn.laid {w2 w3 w5 : World} {Fn : Nat → Prop} {s : ByteArray} {o o5 : Obj} {g1 k1 g2 k2 : Nat} (hC : Keeps M At 28 21 23 60 62 20 58 11) (h : DeskIn At w dk x a b p cs mv vi vd F G) (hf : Fair (cs ++ [⟨true, s, insTo cs cs.length⟩]))
    (uo : Only F w w2) (u1 : DeskAt w2 dk x a b p vi vd (insTo cs cs.length : Nat) (Do.size (Do.there cs) : Nat) mv) (u2 : w2.ownsRow 0 3 1 vi (Do.there cs).length (ID (Do.there cs))) (u3 : w2.ownsRow 0 9 1 vd (Do.there cs).length (SD (Do.there cs)))
    (uF : At w2 x a b p (cs ++ [⟨true, s, insTo cs cs.length⟩]) Fn) (hFm : ∀ k, Fn k → F k ∨ w.heap.size ≤ k)
    (n1 : w3.ownsRow 0 3 1 (.slice (some ⟨g1, 0, none⟩) ((Do.there cs).length + 1) k1) ((Do.there cs).length + 1) (ID (Do.there cs) ++ [.int .i64 (insTo cs cs.length : Nat)])) (n2 : (w2.alloc o).grownBy w3 vi.ownBlock) (n3 : vi.ownBlock = some g1 ∨ g1 = w2.heap.size + 1)
    (m1 : w5.ownsRow 0 9 1 (.slice (some ⟨g2, 0, none⟩) ((Do.there cs).length + 1) k2) ((Do.there cs).length + 1) (SD (Do.there cs) ++ [.string s])) (m2 : ((w3.setCell ⟨dk, 4, none⟩ (.slice (some ⟨g1, 0, none⟩) ((Do.there cs).length + 1) k1)).alloc o5).grownBy w5 vd.ownBlock) (m3 : vd.ownBlock = some g2 ∨ g2 = w3.heap.size + 1) :
    Moved At dk a b p (cs ++ [⟨true, s, insTo cs cs.length⟩]) ((s.size : Int) + 1) G w ((((w5.setCell ⟨dk, 5, none⟩ (.slice (some ⟨g2, 0, none⟩) ((Do.there cs).length + 1) k2)).setCell ⟨dk, 6, none⟩ (.int .i64 ((insTo cs cs.length : Nat) + 1))).setCell ⟨dk, 7, none⟩ (.int .i64 ((Do.size (Do.there cs) : Nat) + (s.size : Int)))).setCell ⟨dk, 8, none⟩ (.int .i64 ((s.size : Int) + 1))) := by
  have hvi : vi.ownBlock ≠ some dk := u1.apart u2 (by decide)
  have hvd : vd.ownBlock ≠ some dk := u1.apart u3 (by decide)
  have B3 := u1.grown n2 hvi
  have B4 := B3.set4 (.slice (some ⟨g1, 0, none⟩) ((Do.there cs).length + 1) k1)
  have hg1 : g1 ≠ dk := fun e => B3.apart n1 (by decide) (by rw [e]; rfl)
  have s3 := n2.size
  have s5 := m2.size
  simp at s3 s5
  have hdl := u1.lt
  have B5 := B4.grown m2 hvd
  have hg2 : g2 ≠ dk := fun e => B5.apart m1 (by decide) (by rw [e]; rfl)
  have B9 := (((B5.set5 (.slice (some ⟨g2, 0, none⟩) ((Do.there cs).length + 1) k2)).set6 ((insTo cs cs.length : Nat) + 1)).set7 ((Do.size (Do.there cs) : Nat) + (s.size : Int))).set8 ((s.size : Int) + 1)
  have keep : ∀ k, k ≠ dk → ((((w5.setCell ⟨dk, 5, none⟩ (.slice (some ⟨g2, 0, none⟩) ((Do.there cs).length + 1) k2)).setCell ⟨dk, 6, none⟩ (.int .i64 ((insTo cs cs.length : Nat) + 1))).setCell ⟨dk, 7, none⟩ (.int .i64 ((Do.size (Do.there cs) : Nat) + (s.size : Int)))).setCell ⟨dk, 8, none⟩ (.int .i64 ((s.size : Int) + 1))).heap[k]? = w5.heap[k]? := fun k hk => by
    rw [Below.heap_setCell _ ⟨dk, 8, none⟩ _ k hk, Below.heap_setCell _ ⟨dk, 7, none⟩ _ k hk, Below.heap_setCell _ ⟨dk, 6, none⟩ _ k hk, Below.heap_setCell _ ⟨dk, 5, none⟩ _ k hk]
  have zz : ((((w5.setCell ⟨dk, 5, none⟩ (.slice (some ⟨g2, 0, none⟩) ((Do.there cs).length + 1) k2)).setCell ⟨dk, 6, none⟩ (.int .i64 ((insTo cs cs.length : Nat) + 1))).setCell ⟨dk, 7, none⟩ (.int .i64 ((Do.size (Do.there cs) : Nat) + (s.size : Int)))).setCell ⟨dk, 8, none⟩ (.int .i64 ((s.size : Int) + 1))).heap.size = w5.heap.size := by simp
  have wos : (((((w5.setCell ⟨dk, 5, none⟩ (.slice (some ⟨g2, 0, none⟩) ((Do.there cs).length + 1) k2)).setCell ⟨dk, 6, none⟩ (.int .i64 ((insTo cs cs.length : Nat) + 1))).setCell ⟨dk, 7, none⟩ (.int .i64 ((Do.size (Do.there cs) : Nat) + (s.size : Int)))).setCell ⟨dk, 8, none⟩ (.int .i64 ((s.size : Int) + 1)))).os = w5.os := rfl
  have wta : (((((w5.setCell ⟨dk, 5, none⟩ (.slice (some ⟨g2, 0, none⟩) ((Do.there cs).length + 1) k2)).setCell ⟨dk, 6, none⟩ (.int .i64 ((insTo cs cs.length : Nat) + 1))).setCell ⟨dk, 7, none⟩ (.int .i64 ((Do.size (Do.there cs) : Nat) + (s.size : Int)))).setCell ⟨dk, 8, none⟩ (.int .i64 ((s.size : Int) + 1)))).tape = w5.tape := rfl
  have wou : (((((w5.setCell ⟨dk, 5, none⟩ (.slice (some ⟨g2, 0, none⟩) ((Do.there cs).length + 1) k2)).setCell ⟨dk, 6, none⟩ (.int .i64 ((insTo cs cs.length : Nat) + 1))).setCell ⟨dk, 7, none⟩ (.int .i64 ((Do.size (Do.there cs) : Nat) + (s.size : Int)))).setCell ⟨dk, 8, none⟩ (.int .i64 ((s.size : Int) + 1)))).output = w5.output := rfl
  generalize ((((w5.setCell ⟨dk, 5, none⟩ (.slice (some ⟨g2, 0, none⟩) ((Do.there cs).length + 1) k2)).setCell ⟨dk, 6, none⟩ (.int .i64 ((insTo cs cs.length : Nat) + 1))).setCell ⟨dk, 7, none⟩ (.int .i64 ((Do.size (Do.there cs) : Nat) + (s.size : Int)))).setCell ⟨dk, 8, none⟩ (.int .i64 ((s.size : Int) + 1))) = W at *
  -- the ids' row goes on
  have n1' : (w3.setCell ⟨dk, 4, none⟩ (.slice (some ⟨g1, 0, none⟩) ((Do.there cs).length + 1) k1)).ownsRow 0 3 1 (.slice (some ⟨g1, 0, none⟩) ((Do.there cs).length + 1) k1) ((Do.there cs).length + 1) (ID (Do.there cs) ++ [.int .i64 (insTo cs cs.length : Nat)]) := ownsRow_setCell_other n1 (by show some g1 ≠ some dk; simpa using hg1) _
  have u3' : (w3.setCell ⟨dk, 4, none⟩ (.slice (some ⟨g1, 0, none⟩) ((Do.there cs).length + 1) k1)).ownsRow 0 9 1 vd (Do.there cs).length (SD (Do.there cs)) := row_kept u3 fun g hg => by
    have hgl := (World.ownsRow.lt u3 g hg).2
    rw [Below.heap_setCell w3 ⟨dk, 4, none⟩ _ g (fun e => hvd (by have e' : g = dk := e; rw [← e']; exact hg)), n2.block g (by simp; omega) (fun e => kinds_apartE u2 u3 (by decide) e.symm hg), Below.heap_alloc w2 o g hgl]
  have hg1l : g1 < w3.heap.size := (World.ownsRow.lt n1 g1 rfl).2
  have hg12 : vd.ownBlock ≠ some g1 := fun e => kinds_apartE n1' u3' (by decide) rfl e
  have same : ∀ k, k < w2.heap.size → k ≠ dk → vi.ownBlock ≠ some k → vd.ownBlock ≠ some k → W.heap[k]? = w2.heap[k]? := fun k hk h1 h2 h3 => by
    rw [keep k h1, m2.block k (by simp; omega) (fun e => h3 e.symm), Below.heap_alloc _ o5 k (by simp; omega), Below.heap_setCell w3 ⟨dk, 4, none⟩ _ k h1, n2.block k (by simp; omega) (fun e => h2 e.symm), Below.heap_alloc w2 o k hk]
  have hn : ∀ k, k < w.heap.size → ¬ F k → ¬ Fn k := fun k h1 h2 h3 => by
    rcases hFm k h3 with h4 | h4
    · exact h2 h4
    · omega
  have ndk := hn dk (h.lt dk h.gd) h.nd
  have nvi : ∀ g, vi.ownBlock = some g → ¬ Fn g := fun g hg => hn g (h.lt g (h.gi g hg)) (h.ni g hg)
  have nvd : ∀ g, vd.ownBlock = some g → ¬ Fn g := fun g hg => hn g (h.lt g (h.gv g hg)) (h.nv g hg)
  have hFl := hC.lt uF
  have so := uo.size
  refine ⟨?_, fun k => Fn k ∨ k = dk ∨ k = g1 ∨ k = g2, ⟨x, .slice (some ⟨g1, 0, none⟩) ((Do.there cs).length + 1) k1, .slice (some ⟨g2, 0, none⟩) ((Do.there cs).length + 1) k2, Fn, ?_⟩, ?_⟩
  · refine ⟨?_, ?_, ?_, by omega, fun k hk hg => ?_⟩
    · exact (wos.trans m2.os).trans (n2.os.trans uo.os)
    · exact (wta.trans m2.tape).trans (n2.tape.trans uo.tape)
    · exact (wou.trans m2.output).trans (n2.output.trans uo.output)
    · have e1 : k ≠ dk := fun e => hg (by rw [e]; exact h.gd)
      have e2 : vi.ownBlock ≠ some k := fun e => hg (h.gi k e)
      have e3 : vd.ownBlock ≠ some k := fun e => hg (h.gv k e)
      rw [same k (by omega) e1 e2 e3]
      exact uo.block k hk (fun hf => hg (h.gf k hf))
  · have hth : Do.there (cs ++ [⟨true, s, insTo cs cs.length⟩]) = Do.there cs ++ [⟨true, s, insTo cs cs.length⟩] := Do.there_ins _ _ rfl
    exact {
      blk := by
        rw [hth, size_append, insTo_more']
        simpa using B9
      ri := by
        rw [hth, List.length_append]
        have e : ID (Do.there cs ++ [⟨true, s, insTo cs cs.length⟩]) = ID (Do.there cs) ++ [.int .i64 (insTo cs cs.length : Nat)] := by simp [ID]
        rw [e]
        refine row_kept n1' fun g hg => ?_
        have e' : g = g1 := by simpa [Value.ownBlock] using hg.symm
        subst e'
        rw [keep g hg1, m2.block g (by simp; omega) (fun e => hg12 e.symm), Below.heap_alloc _ o5 g (by simp; omega)]
      rd := by
        rw [hth, List.length_append]
        have e : SD (Do.there cs ++ [⟨true, s, insTo cs cs.length⟩]) = SD (Do.there cs) ++ [.string s] := by simp [SD]
        rw [e]
        refine row_kept m1 fun g hg => ?_
        have e' : g = g2 := by simpa [Value.ownBlock] using hg.symm
        subst e'
        exact keep g hg2
      idx := hC.frame uF (by omega) fun k hk => same k (hFl k hk) (fun e => ndk (by rw [← e]; exact hk)) (fun e => nvi k e hk) (fun e => nvd k e hk)
      fair := hf
      conf := h.conf
      nd := ndk
      ni := fun g hg hfn => by
        have e' : g = g1 := by simpa [Value.ownBlock] using hg.symm
        subst e'
        rcases n3 with e | e
        · exact nvi g e hfn
        · have := hFl g hfn; omega
      nv := fun g hg hfn => by
        have e' : g = g2 := by simpa [Value.ownBlock] using hg.symm
        subst e'
        rcases m3 with e | e
        · exact nvd g e hfn
        · have := hFl g hfn; omega
      gd := .inr (.inl rfl)
      gf := fun k hk => .inl hk
      gi := fun g hg => .inr (.inr (.inl (by simpa [Value.ownBlock] using hg.symm)))
      gv := fun g hg => .inr (.inr (.inr (by simpa [Value.ownBlock] using hg.symm)))
      lt := fun k hk => by
        rw [zz]
        rcases hk with hk | rfl | rfl | rfl
        · have := hFl k hk; omega
        · exact B5.lt
        · omega
        · exact (World.ownsRow.lt m1 k rfl).2 }
  · intro k hk
    rcases hk with hk | rfl | rfl | rfl
    · exact (hFm k hk).imp (h.gf k) (fun h => h)
    · exact .inl h.gd
    · rcases n3 with e | e
      · exact .inl (h.gi k e)
      · right; omega
    · rcases m3 with e | e
      · exact .inl (h.gv k e)
      · right; omega

set_option maxHeartbeats 1000000 in
theorem dInserts_ok (hC : Keeps M At 28 21 23 60 62 20 58 11) (s : ByteArray) (hm : cs.length ≤ M) (hM : M ≤ 9000000000000000) (h : DeskIn At w dk x a b p cs mv vi vd F G) (h1 : s.size ≤ 40) (h2 : ¬ (a < (Do.size (Do.there cs) : Int) + s.size ∨ 60 ≤ (Do.there cs).length)) :
    Calls Try.prog 12 #[.pointer (some ⟨dk, 0, none⟩), .string s] w fun e w' => e = .returned (.bool true) ∧ Moved At dk a b p (insRes cs a s).2.2 ((s.size : Int) + 1) G w w' := by
  obtain ⟨i0, hi, hz0, hz1, hz2⟩ := info_parts Try.info3
  have hI := hC.insert s hm (by omega) h.idx
  have hfair := h.fair.ins a s
  have e1 : insRes cs a s = (((insTo cs cs.length : Nat) : Int), 0, cs ++ [⟨true, s, insTo cs cs.length⟩]) := by unfold insRes; rw [if_neg (by omega), if_neg h2]
  rw [e1] at hI hfair
  rw [e1]
  have HI : Hid (Calls Try.prog 21 #[.pointer (some ⟨x, 0, none⟩), .string s] w fun e w' => e = .returned (.tuple #[.int .i64 (insTo cs cs.length : Nat), .int .i64 0]) ∧ Only F w w' ∧ ∃ G, At w' x a b p (cs ++ [⟨true, s, insTo cs cs.length⟩]) G ∧ ∀ k, G k → F k ∨ w.heap.size ≤ k) := hI
  have c0 := h.blk.c0
  have d1 : decide ((40 : Int) < (s.size : Int)) = false := by rw [decide_eq_false_iff_not]; omega
  have hsz : Do.size (Do.there cs) ≤ 40 * (Do.there cs).length := Do.sizeTo_le _ h.fair.docs _
  have hfew := h.fair.few
  have hit := insTo_le cs cs.length
  clear hI e1
  go_enter Try.func12, Try.ntmps12
  go_wp2_with fail
  refine HI.out.mono ?_
  rintro e w1 ⟨rfl, ho, Fn, hFn, hFm⟩
  obtain ⟨t1, t2, t3⟩ := h.turned ho
  have c7 := t1.c7
  have c1 := t1.c1
  have c4 := t1.c4
  obtain ⟨ai, ci, hvi⟩ : ∃ ai ci, vi = .slice ai (Do.there cs).length ci := by
    rcases t2.2 with ⟨q1, q2⟩ | ⟨g, cap, cur, q1, _⟩
    · exact ⟨none, 0, by rw [q1, q2]⟩
    · exact ⟨_, cap, q1⟩
  rw [hvi] at c4
  have d2 : decide (a < (Do.size (Do.there cs) : Int) + (s.size : Int)) = false := by rw [decide_eq_false_iff_not]; omega
  have d3 : decide ((60 : Int) ≤ ((Do.there cs).length : Int)) = false := by rw [decide_eq_false_iff_not]; omega
  have hnn : (((insTo cs cs.length : Nat) : Int) != ((insTo cs cs.length : Nat) : Int)) = false := by simp
  clear HI c0
  go_wp2_with fail
  go_quiet (fail)
  have u1 : DeskAt (w1.drewN nq) dk x a b p vi vd (insTo cs cs.length : Nat) (Do.size (Do.there cs) : Nat) mv := t1
  have u2 : (w1.drewN nq).ownsRow 0 3 1 vi (Do.there cs).length (ID (Do.there cs)) := t2
  have u3 : (w1.drewN nq).ownsRow 0 9 1 vd (Do.there cs).length (SD (Do.there cs)) := t3
  have uF : At (w1.drewN nq) x a b p (cs ++ [⟨true, s, insTo cs cs.length⟩]) Fn := hC.frame hFn (Nat.le_refl _) (fun _ _ => rfl)
  have uo : Only F w (w1.drewN nq) := ho.trans (Only.of_below (below_drewN (Below.refl _ _) _))
  generalize w1.drewN nq = w2 at *
  clear t1 t2 t3 c7 c1 c4 hFn ho
  have c6 := u1.c6
  have c4 := u1.c4
  have hvi' : vi.ownBlock ≠ some dk := u1.apart u2 (by decide)
  have hvd' : vd.ownBlock ≠ some dk := u1.apart u3 (by decide)
  obtain ⟨j0, hj, hy0, hy1, hy2⟩ := info_parts Try.info9
  have HU3 : Hid (∀ w3 g1 k1, (w2.alloc (.cells #[.int .i64 (insTo cs cs.length : Nat)] 3)).grownBy w3 vi.ownBlock → (w3.setCell ⟨dk, 4, none⟩ (.slice (some ⟨g1, 0, none⟩) ((Do.there cs).length + 1) k1)).ownsRow 0 9 1 vd (Do.there cs).length (SD (Do.there cs))) := fun w3 g1 k1 n2 => row_kept u3 fun g hg => by
    have hgl := (World.ownsRow.lt u3 g hg).2
    rw [Below.heap_setCell w3 ⟨dk, 4, none⟩ _ g (fun e => hvd' (by have e' : g = dk := e; rw [← e']; exact hg)), n2.block g (by simp; omega) (fun e => kinds_apartE u2 u3 (by decide) e.symm hg), Below.heap_alloc w2 _ g hgl]
  subst hvi
  go_wp2_with (at_builtin; first | (refine wpList_append_lies _ rfl _ _ 35 rfl 0 3 i0 (.int .i64 0) 1 8 Try.underlying35 hi hz0 hz1 hz2 rfl (by decide) _ _ _ rfl (World.ownsRow.alloc u2 _) ⟨w2.heap.size, 0, none⟩ 1 1 [.int .i64 (insTo cs cs.length : Nat)] rfl rfl (cell_one_new _ _ _) (by intro u hu2; simp at hu2; subst hu2; rfl) (by decide) (by unfold maxLen; omega) (by omega) (Nat.zero_le _) (w2.heap.size + 1) (by simp) ?_; intro g1 k1 w3 n1 n2 n3 n4; have B3 := u1.grown n2 hvi'; have c43 := B3.c4; have f43 := B3.free 4; have B4 := B3.set4 (.slice (some ⟨g1, 0, none⟩) ((Do.there cs).length + 1) k1); have c54 := B4.c5; have V4 := HU3.out w3 g1 k1 n2) | (refine wpList_append_lies _ rfl _ _ 36 rfl 0 9 j0 (.string ⟨#[]⟩) 1 16 Try.underlying36 hj hy0 hy1 hy2 rfl (by decide) _ _ _ rfl (World.ownsRow.alloc V4 _) ⟨w3.heap.size, 0, none⟩ 1 1 [.string s] rfl rfl (by have := cell_one_new (w3.setCell ⟨dk, 4, none⟩ (.slice (some ⟨g1, 0, none⟩) ((Do.there cs).length + 1) k1)) (.string s) 9; simpa using this) (by intro u hu2; simp at hu2; subst hu2; rfl) (by decide) (by unfold maxLen; omega) (by omega) (Nat.zero_le _) (w3.heap.size + 1) (by simp) ?_; intro g2 k2 w5 m1 m2 m3 m4; have B5 := B4.grown m2 hvd'; have c55 := B5.c5; have f55 := B5.free 5; have B6 := B5.set5 (.slice (some ⟨g2, 0, none⟩) ((Do.there cs).length + 1) k2); have c66 := B6.c6; have f66 := B6.free 6; have B7 := B6.set6 ((insTo cs cs.length : Nat) + 1); have c77 := B7.c7; have f77 := B7.free 7; have B8 := B7.set7 ((Do.size (Do.there cs) : Nat) + (s.size : Int)); have c88 := B8.c8; have f88 := B8.free 8))
  go_ret
  exact ⟨rfl, DeskIn.laid hC h hfair uo u1 u2 u3 uF hFm n1 n2 n3 m1 m2 m3⟩

/-- what came is told -/
def insMv (cs : List Do.Chg) (a : Int) (s : ByteArray) (mv : Int) : Int :=
  if 40 < s.size then mv else if a < (Do.size (Do.there cs) : Int) + s.size ∨ 60 ≤ (Do.there cs).length then mv else (s.size : Int) + 1

theorem dInserts_any (hC : Keeps M At 28 21 23 60 62 20 58 11) (s : ByteArray) (hm : cs.length ≤ M) (hM : M ≤ 9000000000000000) (hs : s.size ≤ 9223372036854775807) (h : Desk At w dk a b p cs mv G) :
    Calls Try.prog 12 #[.pointer (some ⟨dk, 0, none⟩), .string s] w fun e w' => e = .returned (.bool true) ∧ Moved At dk a b p (insRes cs a s).2.2 (insMv cs a s mv) G w w' := by
  obtain ⟨x, vi, vd, F, h⟩ := h
  by_cases h1 : 40 < s.size
  · have e1 : insRes cs a s = (0, 2, cs) := by unfold insRes; rw [if_pos h1]
    have e2 : insMv cs a s mv = mv := by unfold insMv; rw [if_pos h1]
    rw [e1, e2]
    exact dInserts_long hC s hm hs h h1
  · by_cases h2 : a < (Do.size (Do.there cs) : Int) + s.size ∨ 60 ≤ (Do.there cs).length
    · have e1 : insRes cs a s = (0, 3, cs) := by unfold insRes; rw [if_neg h1, if_pos h2]
      have e2 : insMv cs a s mv = mv := by unfold insMv; rw [if_neg h1, if_pos h2]
      rw [e1, e2]
      exact dInserts_full hC s hm h (by omega) h2
    · have e2 : insMv cs a s mv = (s.size : Int) + 1 := by unfold insMv; rw [if_neg h1, if_neg h2]
      rw [e2]
      exact dInserts_ok hC s hm hM h (by omega) h2
end

end Go.Proofs.Ythkndfkkgncjfab

namespace Go.Proofs.Ythkndfkkgncjfab
open Go.RowKit
set_option maxRecDepth 100000

theorem row_any {w : World} {B : Nat} {e : TypeId} {v : Value} {n : Nat} {xs : List Value} (h : w.ownsRow B e 1 v n xs) : ∃ ao cap, v = .slice ao n cap ∧ ∀ k u, xs[k]? = some u → ∃ g, ao = some ⟨g, 0, none⟩ ∧ w.cell? ⟨g, k, none⟩ = some u := by
  rcases h.2 with ⟨rfl, h0⟩ | ⟨g, cap, cur, rfl, _⟩
  · refine ⟨none, 0, by rw [h0], fun k u hk => ?_⟩
    have h1 := h.1
    have : k < xs.length := by
      rcases Nat.lt_or_ge k xs.length with h | h
      · exact h
      · rw [List.getElem?_eq_none h] at hk; cases hk
    omega
  · refine ⟨_, cap, rfl, fun k u hk => ⟨g, rfl, ?_⟩⟩
    have h1 := h.1
    have : k < xs.length := by
      rcases Nat.lt_or_ge k xs.length with h | h
      · exact h
      · rw [List.getElem?_eq_none h] at hk; cases hk
    rw [World.ownsRow.cellAt h k (by omega)]; exact hk

section
variable {M : Nat} {At : World → Nat → Int → Int → Int → List Do.Chg → (Nat → Prop) → Prop} {w w' : World} {dk x : Nat} {a b p : Int} {cs : List Do.Chg} {mv : Int} {vi vd : Value} {F G : Nat → Prop}

/-- in the midst of the loop: the desk's old rows and the two new ones -/
structure Mid (w1 wr : World) (dk x : Nat) (a b p : Int) (vi vd : Value) (N : Nat) (L : List Do.Chg) (id mv : Int) (k : Nat) (u q : Value) : Prop where
  blk : DeskAt wr dk x a b p vi vd N ((Do.size L : Int) - (Do.remTo L id k : Int)) (Do.movTo L id mv k)
  ri : wr.ownsRow 0 3 1 vi L.length (ID L)
  rd : wr.ownsRow 0 9 1 vd L.length (SD L)
  ui : wr.ownsRow w1.heap.size 3 1 u (Do.without L id k).length (ID (Do.without L id k))
  ud : wr.ownsRow w1.heap.size 9 1 q (Do.without L id k).length (SD (Do.without L id k))
  only : Only (fun k => k = dk) w1 wr
  ld : dk < w1.heap.size
  li : ∀ g, vi.ownBlock = some g → g < w1.heap.size
  lv : ∀ g, vd.ownBlock = some g → g < w1.heap.size

theorem Mid.hit {w1 wr : World} {dk x : Nat} {a b p : Int} {vi vd : Value} {N : Nat} {L : List Do.Chg} {id mv : Int} {k : Nat} {u q : Value} {c : Do.Chg} (h : Mid w1 wr dk x a b p vi vd N L id mv k u q) (hc : L[k]? = some c) (he : (c.id : Int) = id) :
    Mid w1 ((wr.drew.setCell ⟨dk, 7, none⟩ (.int .i64 ((Do.size L : Int) - (Do.remTo L id k : Int) - (c.doc.size : Int)))).setCell ⟨dk, 8, none⟩ (.int .i64 ((c.doc.size : Int) + 1))) dk x a b p vi vd N L id mv (k + 1) u q := by
  have hd : DeskAt wr.drew dk x a b p vi vd N ((Do.size L : Int) - (Do.remTo L id k : Int)) (Do.movTo L id mv k) := h.blk
  have B := (hd.set7 ((Do.size L : Int) - (Do.remTo L id k : Int) - (c.doc.size : Int))).set8 ((c.doc.size : Int) + 1)
  have hvi : vi.ownBlock ≠ some dk := h.blk.apart h.ri (by decide)
  have hvd : vd.ownBlock ≠ some dk := h.blk.apart h.rd (by decide)
  have hu : u.ownBlock ≠ some dk := h.blk.apart h.ui (by decide)
  have hq : q.ownBlock ≠ some dk := h.blk.apart h.ud (by decide)
  have keep : ∀ {e : TypeId} {b0 n : Nat} {xs : List Value} {v : Value}, wr.ownsRow b0 e 1 v n xs → v.ownBlock ≠ some dk → ((wr.drew.setCell ⟨dk, 7, none⟩ (.int .i64 ((Do.size L : Int) - (Do.remTo L id k : Int) - (c.doc.size : Int)))).setCell ⟨dk, 8, none⟩ (.int .i64 ((c.doc.size : Int) + 1))).ownsRow b0 e 1 v n xs := fun hr hn => ownsRow_setCell_other (a := ⟨dk, 8, none⟩) (ownsRow_setCell_other (a := ⟨dk, 7, none⟩) (show wr.drew.ownsRow _ _ _ _ _ _ from hr) hn _) hn _
  refine ⟨?_, keep h.ri hvi, keep h.rd hvd, ?_, ?_, ?_, h.ld, h.li, h.lv⟩
  · rw [Do.remTo_hit L id k c hc he, Do.movTo_hit L id mv k c hc he]
    have e : ((Do.size L : Int) - ((Do.remTo L id k + c.doc.size : Nat) : Int)) = (Do.size L : Int) - (Do.remTo L id k : Int) - (c.doc.size : Int) := by omega
    rw [e]; exact B
  · rw [Do.without_miss L id k c hc he]; exact keep h.ui hu
  · rw [Do.without_miss L id k c hc he]; exact keep h.ud hq
  · exact ((h.only.trans (Only.of_below ((Below.refl wr.heap.size wr).drew))).trans (Only.setCell ⟨dk, 7, none⟩ _ rfl)).trans (Only.setCell ⟨dk, 8, none⟩ _ rfl)

theorem Mid.miss {w1 wr w3 w5 : World} {dk x : Nat} {a b p : Int} {vi vd : Value} {N : Nat} {L : List Do.Chg} {id mv : Int} {k : Nat} {u q u' q' : Value} {c : Do.Chg} {o o5 : Obj} (h : Mid w1 wr dk x a b p vi vd N L id mv k u q) (hc : L[k]? = some c) (he : ¬ (c.id : Int) = id)
    (n1 : w3.ownsRow w1.heap.size 3 1 u' ((Do.without L id k).length + 1) (ID (Do.without L id k) ++ [.int .i64 (c.id : Int)])) (n2 : (wr.alloc o).grownBy w3 u.ownBlock)
    (m1 : w5.ownsRow w1.heap.size 9 1 q' ((Do.without L id k).length + 1) (SD (Do.without L id k) ++ [.string c.doc])) (m2 : (w3.alloc o5).grownBy w5 q.ownBlock) (hq : ∀ g, q.ownBlock = some g → g < wr.heap.size) :
    Mid w1 w5 dk x a b p vi vd N L id mv (k + 1) u' q' := by
  have s3 := n2.size
  have s5 := m2.size
  simp at s3 s5
  have so := h.only.size
  have low : ∀ g, g < w1.heap.size → w5.heap[g]? = wr.heap[g]? := fun g hg => by
    rw [m2.block g (by simp; omega) (fun e => by have := (World.ownsRow.lt h.ud g e.symm).1; omega), Below.heap_alloc w3 o5 g (by omega), n2.block g (by simp; omega) (fun e => by have := (World.ownsRow.lt h.ui g e.symm).1; omega), Below.heap_alloc wr o g (by omega)]
  have hq3 : w3.ownsRow w1.heap.size 9 1 q (Do.without L id k).length (SD (Do.without L id k)) := row_kept h.ud fun g hg => by
    rw [n2.block g (by have := hq g hg; simp; omega) (fun e => kinds_apartE h.ui h.ud (by decide) e.symm hg), Below.heap_alloc wr o g (hq g hg)]
  refine ⟨?_, row_kept h.ri fun g hg => low g (h.li g hg), row_kept h.rd fun g hg => low g (h.lv g hg), ?_, ?_, ?_, h.ld, h.li, h.lv⟩
  · rw [Do.remTo_miss L id k c hc he, Do.movTo_miss L id mv k c hc he]
    exact h.blk.same (low dk h.ld)
  · rw [Do.without_hit L id k c hc he, List.length_append]
    have e : ID (Do.without L id k ++ [c]) = ID (Do.without L id k) ++ [.int .i64 (c.id : Int)] := by simp [ID]
    rw [e]
    refine row_kept n1 fun g hg => ?_
    have hgl := (World.ownsRow.lt n1 g hg).2
    rw [m2.block g (by simp; omega) (fun e' => kinds_apartE n1 hq3 (by decide) hg e'.symm), Below.heap_alloc w3 o5 g hgl]
  · rw [Do.without_hit L id k c hc he, List.length_append]
    have e : SD (Do.without L id k ++ [c]) = SD (Do.without L id k) ++ [.string c.doc] := by simp [SD]
    rw [e]; exact m1
  · refine ⟨(m2.os.trans (n2.os)).trans h.only.os, (m2.tape.trans n2.tape).trans h.only.tape, (m2.output.trans n2.output).trans h.only.output, by omega, fun g hg hne => ?_⟩
    rw [low g hg]; exact h.only.block g hg hne

theorem Mid.drawn {w1 wr : World} {dk x : Nat} {a b p : Int} {vi vd : Value} {N : Nat} {L : List Do.Chg} {id mv : Int} {k : Nat} {u q : Value} (h : Mid w1 wr dk x a b p vi vd N L id mv k u q) (m : Nat) : Mid w1 (wr.drewN m) dk x a b p vi vd N L id mv k u q :=
  ⟨h.blk, h.ri, h.rd, h.ui, h.ud, h.only.trans (Only.of_below (below_drewN (Below.refl _ _) m)), h.ld, h.li, h.lv⟩

theorem Mid.fin {w1 wr : World} {Fn : Nat → Prop} {id : Int} {u q : Value} (hC : Keeps M At 28 21 23 60 62 20 58 11) (h : DeskIn At w dk x a b p cs mv vi vd F G) (ho : Only F w w1) (hFn : At w1 x a b p (delRes cs id).2 Fn) (hFm : ∀ k, Fn k → F k ∨ w.heap.size ≤ k)
    (hM : Mid w1 wr dk x a b p vi vd (insTo cs cs.length) (Do.there cs) id mv (Do.there cs).length u q) :
    Moved At dk a b p (delRes cs id).2 (Do.movTo (Do.there cs) id mv (Do.there cs).length) G w ((wr.setCell ⟨dk, 4, none⟩ u).setCell ⟨dk, 5, none⟩ q) := by
  have B := (hM.blk.set4 u).set5 q
  have hu : u.ownBlock ≠ some dk := hM.blk.apart hM.ui (by decide)
  have hq : q.ownBlock ≠ some dk := hM.blk.apart hM.ud (by decide)
  have so := ho.size
  have sr := hM.only.size
  have ndk : ¬ Fn dk := fun hf => by
    rcases hFm dk hf with h1 | h1
    · exact h.nd h1
    · have := h.lt dk h.gd; omega
  have hFl := hC.lt hFn
  have same : ∀ k, k < w1.heap.size → k ≠ dk → ((wr.setCell ⟨dk, 4, none⟩ u).setCell ⟨dk, 5, none⟩ q).heap[k]? = w1.heap[k]? := fun k hk hne => by
    rw [Below.heap_setCell _ ⟨dk, 5, none⟩ _ k hne, Below.heap_setCell _ ⟨dk, 4, none⟩ _ k hne]; exact hM.only.block k hk hne
  have zz : ((wr.setCell ⟨dk, 4, none⟩ u).setCell ⟨dk, 5, none⟩ q).heap.size = wr.heap.size := by simp
  have keep : ∀ {e : TypeId} {b0 n : Nat} {xs : List Value} {v : Value}, wr.ownsRow b0 e 1 v n xs → v.ownBlock ≠ some dk → ((wr.setCell ⟨dk, 4, none⟩ u).setCell ⟨dk, 5, none⟩ q).ownsRow 0 e 1 v n xs := fun {e b0 n xs v} hr hn => by
    have h1 := ownsRow_setCell_other (a := ⟨dk, 5, none⟩) (ownsRow_setCell_other (a := ⟨dk, 4, none⟩) hr hn u) hn q
    refine ⟨h1.1, ?_⟩
    rcases h1.2 with h2 | ⟨g, cap, cur, e', hB, rest⟩
    · exact .inl h2
    · exact .inr ⟨g, cap, cur, e', Nat.zero_le _, rest⟩
  have hsw := Do.size_without (Do.there cs) id (Do.there cs).length (Nat.le_refl _)
  refine ⟨?_, fun k => Fn k ∨ k = dk ∨ u.ownBlock = some k ∨ q.ownBlock = some k, ⟨x, u, q, Fn, ?_⟩, ?_⟩
  · refine ⟨hM.only.os.trans ho.os, hM.only.tape.trans ho.tape, hM.only.output.trans ho.output, by omega, fun k hk hg => ?_⟩
    rw [same k (by omega) (fun e => hg (by rw [e]; exact h.gd))]
    exact ho.block k hk (fun hf => hg (h.gf k hf))
  · exact {
      blk := by
        rw [delRes_there, delRes_next]
        have e : ((Do.size (Do.there cs) : Int) - (Do.remTo (Do.there cs) id (Do.there cs).length : Int)) = ((Do.size (Do.without (Do.there cs) id (Do.there cs).length) : Nat) : Int) := by
          show ((Do.sizeTo (Do.there cs) (Do.there cs).length : Int) - _) = _
          omega
        rw [← e]; exact B
      ri := by rw [delRes_there]; exact keep hM.ui hu
      rd := by rw [delRes_there]; exact keep hM.ud hq
      idx := hC.frame hFn (by omega) fun k hk => same k (hFl k hk) (fun e => ndk (by rw [← e]; exact hk))
      fair := h.fair.del id
      conf := h.conf
      nd := ndk
      ni := fun g hg hf => by have h1 := (World.ownsRow.lt hM.ui g hg).1; have := hFl g hf; omega
      nv := fun g hg hf => by have h1 := (World.ownsRow.lt hM.ud g hg).1; have := hFl g hf; omega
      gd := .inr (.inl rfl)
      gf := fun k hk => .inl hk
      gi := fun g hg => .inr (.inr (.inl hg))
      gv := fun g hg => .inr (.inr (.inr hg))
      lt := fun k hk => by
        rw [zz]
        rcases hk with hk | rfl | hk | hk
        · have := hFl k hk; omega
        · exact hM.blk.lt
        · exact (World.ownsRow.lt hM.ui k hk).2
        · exact (World.ownsRow.lt hM.ud k hk).2 }
  · intro k hk
    rcases hk with hk | rfl | hk | hk
    · exact (hFm k hk).imp (h.gf k) (fun h => h)
    · exact .inl h.gd
    · right; have := (World.ownsRow.lt hM.ui k hk).1; omega
    · right; have := (World.ownsRow.lt hM.ud k hk).1; omega

set_option maxHeartbeats 2000000 in
theorem dDeletes_in (hC : Keeps M At 28 21 23 60 62 20 58 11) (id : Int) (hm : cs.length ≤ M) (hid : inR id) (h : DeskIn At w dk x a b p cs mv vi vd F G) :
    Calls Try.prog 14 #[.pointer (some ⟨dk, 0, none⟩), .int .i64 id] w fun e w' => e = .returned (.bool true) ∧ Moved At dk a b p (delRes cs id).2 (Do.movTo (Do.there cs) id mv (Do.there cs).length) G w w' := by
  obtain ⟨i0, hi, hz0, hz1, hz2⟩ := info_parts Try.info3
  obtain ⟨j0, hj, hy0, hy1, hy2⟩ := info_parts Try.info9
  have hI := hC.delete id hm hid h.idx
  have HI : Hid (Calls Try.prog 23 #[.pointer (some ⟨x, 0, none⟩), .int .i64 id] w fun e w' => e = .returned (.int .i64 (delRes cs id).1) ∧ Only F w w' ∧ ∃ G, At w' x a b p (delRes cs id).2 G ∧ ∀ k, G k → F k ∨ w.heap.size ≤ k) := hI
  have c0 := h.blk.c0
  have hfew := h.fair.few
  have hsz : Do.size (Do.there cs) ≤ 40 * (Do.there cs).length := Do.sizeTo_le _ h.fair.docs _
  have HD : Hid (∀ c ∈ Do.there cs, c.doc.size ≤ 40) := h.fair.docs
  clear hI
  go_enter Try.func14, Try.ntmps14
  go_wp2_with fail
  refine HI.out.mono ?_
  rintro e w1 ⟨rfl, ho, Fn, hFn, hFm⟩
  obtain ⟨t1, t2, t3⟩ := h.turned ho
  clear HI c0
  have hlow : ∀ g, vi.ownBlock = some g → g < w1.heap.size := fun g hg => (World.ownsRow.lt t2 g hg).2
  have hlod : ∀ g, vd.ownBlock = some g → g < w1.heap.size := fun g hg => (World.ownsRow.lt t3 g hg).2
  have HM0 : Hid (Mid w1 w1 dk x a b p vi vd (insTo cs cs.length) (Do.there cs) id mv 0 (.slice none 0 0) (.slice none 0 0)) := ⟨by simpa [Do.remTo, Do.movTo] using t1, t2, t3, World.ownsRow_nil _ _ _ _, World.ownsRow_nil _ _ _ _, Only.refl _ _, t1.lt, hlow, hlod⟩
  generalize hE : (delRes cs id).1 = er
  generalize hLL : Do.there cs = L at *
  have HE : Hid ((delRes cs id).1 = er) := hE
  have HLL : Hid (Do.there cs = L) := hLL
  clear hE hLL t1 t2 t3
  go_wp2_with fail
  go_loopw [6, 7, 8, 9] (fun u q th i wr => ∃ k : Nat, k ≤ L.length ∧ i = .int .i64 k ∧ th = .bool (Do.anyTo L id k) ∧ Mid w1 wr dk x a b p vi vd (insTo cs cs.length) L id mv k u q) (fun _ _ _ i _ => L.length - (intOf i).toNat)
  case atStart => exact ⟨0, Nat.zero_le _, rfl, rfl, HM0.out⟩
  case round =>
    obtain ⟨k, hk, rfl, rfl, hM⟩ := hrel
    clear HM0
    have c4 := hM.blk.c4
    have c5 := hM.blk.c5
    have c7 := hM.blk.c7
    have f7 := hM.blk.free 7
    obtain ⟨ai, ci, hvi, hri⟩ := row_any hM.ri
    obtain ⟨ad, cd, hvd, hrd⟩ := row_any hM.rd
    have hrs : Do.remTo L id k ≤ Do.size L := Nat.le_trans (Do.rem_le L id k hk) (Do.sizeTo_mono L k L.length hk)
    by_cases hlt : k < L.length
    · obtain ⟨c, hck⟩ : ∃ c, L[k]? = some c := ⟨L[k], List.getElem?_eq_getElem hlt⟩
      have hcd := HD.out c (List.mem_of_getElem? hck)
      obtain ⟨gi, rfl, e4⟩ := hri k (.int .i64 (c.id : Int)) (by simp [ID, hck])
      obtain ⟨gd, rfl, e5⟩ := hrd k (.string c.doc) (by simp [SD, hck])
      rw [hvi] at c4
      rw [hvd] at c5
      have HM : Hid (Mid w1 wr dk x a b p vi vd (insTo cs cs.length) L id mv k u6 u7) := hM
      have HCK : Hid (L[k]? = some c) := hck
      by_cases he : (c.id : Int) = id
      · have he1 : ((c.id : Int) == id) = true := by rw [beq_iff_eq]; exact he
        have HN := HM.out.hit hck he
        have HA : Hid (Do.anyTo L id (k + 1) = true) := Do.anyTo_hit L id k c hck he
        have HNN : Hid (Mid w1 (((wr.setCell ⟨dk, 7, none⟩ (.int .i64 ((Do.size L : Int) - (Do.remTo L id k : Int) - (c.doc.size : Int)))).drew).setCell ⟨dk, 8, none⟩ (.int .i64 ((c.doc.size : Int) + 1))) dk x a b p vi vd (insTo cs cs.length) L id mv (k + 1) u6 u7) := HN
        have B7 := (show DeskAt wr.drew dk x a b p vi vd (insTo cs cs.length) ((Do.size L : Int) - (Do.remTo L id k : Int)) (Do.movTo L id mv k) from hM.blk).set7 ((Do.size L : Int) - (Do.remTo L id k : Int) - (c.doc.size : Int))
        have B7' : DeskAt ((wr.setCell ⟨dk, 7, none⟩ (.int .i64 ((Do.size L : Int) - (Do.remTo L id k : Int) - (c.doc.size : Int)))).drew) dk x a b p vi vd (insTo cs cs.length) ((Do.size L : Int) - (Do.remTo L id k : Int) - (c.doc.size : Int)) (Do.movTo L id mv k) := B7
        have c57 := B7'.c5
        have c87 := B7'.c8
        have f87 := B7'.free 8
        have f77 := B7'.free 7
        rw [hvd] at c57
        have hgd : gd ≠ dk := fun e => hM.blk.apart hM.rd (by decide) (by rw [hvd, e]; rfl)
        have e57 : ((wr.setCell ⟨dk, 7, none⟩ (.int .i64 ((Do.size L : Int) - (Do.remTo L id k : Int) - (c.doc.size : Int)))).drew).cell? ⟨gd, k, none⟩ = some (.string c.doc) := by
          show (wr.setCell ⟨dk, 7, none⟩ _).cell? ⟨gd, k, none⟩ = some (.string c.doc)
          rw [World.cell?_of_block (a := ⟨gd, k, none⟩) (Below.heap_setCell wr ⟨dk, 7, none⟩ _ gd hgd)]; exact e5
        have hwz : IntKind.i64.wrap ((Do.size L : Int) - (Do.remTo L id k : Int) - (c.doc.size : Int)) = (Do.size L : Int) - (Do.remTo L id k : Int) - (c.doc.size : Int) := by rw [IntKind.wrap_i64]; omega
        clear hM HN B7 B7' he hck hvi hvd hri hrd HCK HM
        go_wp2_with fail
        refine wp_region_held_drew (S := fun w' => w'.cell? ⟨dk, 5, none⟩ = some (.slice (some ⟨gd, 0, none⟩) L.length cd) ∧ w'.cell? ⟨gd, k, none⟩ = some (.string c.doc) ∧ w'.frozen? ⟨dk, 7, none⟩ = false) (by kernel_rfl) ⟨c5, e5, f7⟩ (fun hHeld => ?_)
        refine wpAnyH_take (i := 0) (v := ?a0) rfl (by kernel_rfl) (by kernel_rfl) (by kernel_rfl) (fun _ _ _ h => h) (Or.inl ⟨by rfl, ?hya0⟩) (by assumption) ?resta0
        case hya0 => intro w hSw; (try dsimp only at hSw); go_simp; (try with_reducible rfl)
        simp only [Act.put]
        refine wpAnyH_take (i := 1) (v := ?a1) rfl (by kernel_rfl) (by kernel_rfl) (by kernel_rfl) (fun _ _ _ h => h) (Or.inl ⟨by rfl, ?hya1⟩) (by assumption) ?resta1
        case hya1 => intro w hSw; (try dsimp only at hSw); go_simp; (try with_reducible rfl)
        simp only [Act.put]
        refine wpAnyH_take (i := 2) (v := ?a2) rfl (by kernel_rfl) (by kernel_rfl) (by kernel_rfl) (fun _ _ _ h => h) (Or.inl ⟨by rfl, ?hya2⟩) (by assumption) ?resta2
        case hya2 => intro w hSw; (try dsimp only at hSw); go_simp; (try with_reducible rfl)
        simp only [Act.put]
        refine wpAnyH_take (i := 3) (v := ?a3) rfl (by kernel_rfl) (by kernel_rfl) (by kernel_rfl) (fun _ _ _ h => h) (Or.inl ⟨by rfl, ?hya3⟩) (by assumption) ?resta3
        case hya3 => intro w hSw; (try dsimp only at hSw); go_simp; (try with_reducible rfl)
        simp only [Act.put]
        refine wpAnyH_take (i := 5) (v := ?a5) rfl (by kernel_rfl) (by kernel_rfl) (by kernel_rfl) (fun _ _ _ h => h) (Or.inl ⟨by rfl, ?hya5⟩) (by assumption) ?resta5
        case hya5 => intro w hSw; (try dsimp only at hSw); go_simp; (try with_reducible rfl)
        simp only [Act.put]
        refine wpAnyH_take (i := 6) (v := ?a6) rfl (by kernel_rfl) (by kernel_rfl) (by kernel_rfl) (fun _ _ _ h => h) (Or.inl ⟨by rfl, ?hya6⟩) (by assumption) ?resta6
        case hya6 => intro w hSw; (try dsimp only at hSw); go_simp; (try with_reducible rfl)
        simp only [Act.put]
        refine wpAnyH_take (i := 7) (v := ?a7) rfl (by kernel_rfl) (by kernel_rfl) (by kernel_rfl) (fun _ _ _ h => h) (Or.inl ⟨by rfl, ?hya7⟩) (by assumption) ?resta7
        case hya7 => intro w hSw; (try dsimp only at hSw); go_simp; (try with_reducible rfl)
        simp only [Act.put]
        refine wpAnyH_take (i := 8) (v := ?a8) rfl (by kernel_rfl) (by kernel_rfl) (by kernel_rfl) (fun _ _ _ h => h) (Or.inl ⟨by rfl, ?hya8⟩) (by assumption) ?resta8
        case hya8 => intro w hSw; (try dsimp only at hSw); go_simp; (try with_reducible rfl)
        simp only [Act.put]
        refine wpAnyH_take (i := 9) (v := ?a9) rfl (by kernel_rfl) (by kernel_rfl) (by kernel_rfl) (fun _ _ _ h => h) (Or.inl ⟨by rfl, ?hya9⟩) (by assumption) ?resta9
        case hya9 => intro w hSw; (try dsimp only at hSw); go_simp; (try with_reducible rfl)
        simp only [Act.put]
        refine wpAnyH_take (i := 10) (v := ?a10) rfl (by kernel_rfl) (by kernel_rfl) (by kernel_rfl) (fun _ _ _ h => h) (Or.inl ⟨by rfl, ?hya10⟩) (by assumption) ?resta10
        case hya10 => intro w hSw; (try dsimp only at hSw); go_simp; (try with_reducible rfl)
        simp only [Act.put]
        refine wpAnyH_take (i := 11) (v := ?a11) rfl (by kernel_rfl) (by kernel_rfl) (by kernel_rfl) (fun _ _ _ h => h) (Or.inl ⟨by rfl, ?hya11⟩) (by assumption) ?resta11
        case hya11 => intro w hSw; (try dsimp only at hSw); go_simp; (try with_reducible rfl)
        simp only [Act.put]
        refine wpAnyH_take (i := 12) (v := ?a12) rfl (by kernel_rfl) (by kernel_rfl) (by kernel_rfl) (fun _ _ _ h => h) (Or.inl ⟨by rfl, ?hya12⟩) (by assumption) ?resta12
        case hya12 => intro w hSw; (try dsimp only at hSw); go_simp; (try with_reducible rfl)
        simp only [Act.put]
        refine wpAnyH_ready (rs := [4]) (by kernel_rfl) (by simp) ?_
        refine AllReadyH.cons rfl (fun K hK => ?_) AllReadyH.nil
        go_simp
        refine hK.out _ _ (by exact hHeld) (fun hHeld => ?_)
        clear hK K
        refine wpAnyH_take (i := 13) (v := ?b13) rfl (by kernel_rfl) (by kernel_rfl) (by kernel_rfl) (fun _ _ _ h => h) (Or.inl ⟨by rfl, ?hyb13⟩) (by assumption) ?restb13
        case hyb13 => intro w hSw; (try dsimp only at hSw); go_simp; (try with_reducible rfl)
        simp only [Act.put]
        refine wpAnyH_take (i := 14) (v := ?b14) rfl (by kernel_rfl) (by kernel_rfl) (by kernel_rfl) (fun _ _ _ h => h) (Or.inl ⟨by rfl, ?hyb14⟩) (by assumption) ?restb14
        case hyb14 => intro w hSw; (try dsimp only at hSw); go_simp; (try with_reducible rfl)
        simp only [Act.put]
        refine wpAnyH_take (i := 15) (v := ?b15) rfl (by kernel_rfl) (by kernel_rfl) (by kernel_rfl) (fun _ _ _ h => h) (Or.inl ⟨by rfl, ?hyb15⟩) (by assumption) ?restb15
        case hyb15 => intro w hSw; (try dsimp only at hSw); go_simp; (try with_reducible rfl)
        simp only [Act.put]
        refine wpAnyH_ready (rs := [16]) (by kernel_rfl) (by simp) ?_
        refine AllReadyH.cons rfl (fun K hK => ?_) AllReadyH.nil
        go_simp
        refine hK.out _ _ ⟨c57, e57, f77⟩ (fun hHeld => ?_)
        clear hK K hHeld
        refine wpAnyH_done (by kernel_rfl) ?_ _
        go_wp2
        go_roundw
        case rel => exact ⟨k + 1, by omega, by go_num, by rw [HA.out], HNN.out⟩
        case measure => simp [intOf]; omega
      · have he1 : ((c.id : Int) == id) = false := by rw [beq_eq_false_iff_ne]; exact he
        have HA : Hid (Do.anyTo L id (k + 1) = Do.anyTo L id k) := Do.anyTo_miss L id k c hck he
        have hgi : gi < w1.heap.size := hM.li gi (by rw [hvi]; rfl)
        have hgd : gd < w1.heap.size := hM.lv gd (by rw [hvd]; rfl)
        have hld := hM.ld
        have hwl := Do.without_len L id k
        have so := hM.only.size
        have hui := hM.ui
        have hqq : ∀ g, u7.ownBlock = some g → g < wr.heap.size := fun g hg => (World.ownsRow.lt hM.ud g hg).2
        have HLO : Hid (∀ (o : Obj) (w3 : World), (wr.alloc o).grownBy w3 u6.ownBlock → (∀ g, g < w1.heap.size → w3.heap[g]? = wr.heap[g]?) ∧ w3.ownsRow w1.heap.size 9 1 u7 (Do.without L id k).length (SD (Do.without L id k)) ∧ w1.heap.size ≤ w3.heap.size) := fun o w3 n2 =>
          ⟨fun g hg => by rw [n2.block g (by simp; omega) (fun e => by have := (World.ownsRow.lt hM.ui g e.symm).1; omega), Below.heap_alloc wr o g (by omega)],
           row_kept hM.ud fun g hg => by rw [n2.block g (by have := hqq g hg; simp; omega) (fun e => kinds_apartE hM.ui hM.ud (by decide) e.symm hg), Below.heap_alloc wr o g (hqq g hg)],
           by have := n2.size; simp at this; omega⟩
        have HE9 : Hid (¬ (c.id : Int) = id) := he
        clear he hck hM hri hrd
        go_wp2_with (at_builtin; first | (refine wpList_append_own _ rfl _ _ 35 rfl w1.heap.size 3 i0 (.int .i64 0) 1 8 Try.underlying35 hi hz0 hz1 hz2 rfl (by decide) _ _ _ rfl (World.ownsRow.alloc hui _) ⟨wr.heap.size, 0, none⟩ 1 1 [.int .i64 (c.id : Int)] rfl rfl (cell_one_new _ _ _) (by intro u hu2; simp at hu2; subst hu2; rfl) (by unfold maxLen; omega) (by omega) (by simp; omega) ?_; intro u' w3 n1 n2 _; have hlo := (HLO.out _ w3 n2).1; have c53 := (World.cell?_of_block (a := ⟨dk, 5, none⟩) (hlo dk hld)).trans c5; have e53 := (World.cell?_of_block (a := ⟨gd, k, none⟩) (hlo gd hgd)).trans e5; have V3 := (HLO.out _ w3 n2).2.1; have sz3 := (HLO.out _ w3 n2).2.2) | (refine wpList_append_own _ rfl _ _ 36 rfl w1.heap.size 9 j0 (.string ⟨#[]⟩) 1 16 Try.underlying36 hj hy0 hy1 hy2 rfl (by decide) _ _ _ rfl (World.ownsRow.alloc V3 _) ⟨w3.heap.size, 0, none⟩ 1 1 [.string c.doc] rfl rfl (cell_one_new _ _ _) (by intro u hu2; simp at hu2; subst hu2; rfl) (by unfold maxLen; omega) (by omega) (by simp; omega) ?_; intro q' w5 m1 m2 _))
        have HN := HM.out.miss HCK.out HE9.out n1 n2 m1 m2 hqq
        clear HM HLO n1 n2 m1 m2 V3 hui
        go_roundw
        case rel => exact ⟨k + 1, by omega, by go_num, by rw [HA.out], HN⟩
        case measure => simp [intOf]; omega
    · have hke : k = L.length := by omega
      subst hke
      have f4 := hM.blk.free 4
      have B4 := hM.blk.set4 u6
      have c54 := B4.c5
      have f54 := B4.free 5
      obtain ⟨au, cu, hu6, _⟩ := row_any hM.ui
      obtain ⟨aq, cq, hu7, _⟩ := row_any hM.ud
      have HEN : Hid ((Do.at? L id = none ∧ er = 4 ∧ Do.anyTo L id L.length = false) ∨ (er = 0 ∧ Do.anyTo L id L.length = true)) := by
        show _ ∨ _
        cases hat : Do.at? L id with
        | none =>
          left
          refine ⟨rfl, ?_, Do.any_none L id hat _⟩
          rw [← HE.out]; unfold delRes; rw [HLL.out, hat]
        | some j =>
          right
          obtain ⟨c, hc, hcid⟩ := at_get _ _ _ hat
          refine ⟨?_, Do.any_some L id j c hc hcid _ ?_⟩
          · rw [← HE.out]; unfold delRes; rw [HLL.out, hat]; simp only [hc]
          · rcases Nat.lt_or_ge j L.length with h1 | h1
            · exact h1
            · rw [List.getElem?_eq_none h1] at hc; cases hc
      have HFI : Hid (Moved At dk a b p (delRes cs id).2 (Do.movTo L id mv L.length) G w ((wr.setCell ⟨dk, 4, none⟩ u6).setCell ⟨dk, 5, none⟩ u7)) := by
        have hM' := hM
        rw [← HLL.out] at hM'
        have := Mid.fin hC h ho hFn hFm hM'
        rw [HLL.out] at this
        exact this
      rw [← HLL.out] at HFI
      clear h hM B4 hri hrd ho hFn
      rw [hvi] at c4
      subst hu6
      subst hu7
      rcases HEN.out with ⟨_, q1, q2⟩ | ⟨q1, q2⟩
      · rw [q2]
        subst q1
        clear HEN
        go_wp2
        go_ret
        exact ⟨rfl, HFI.out⟩
      · rw [q2]
        subst q1
        clear HEN
        go_wp2
        go_ret
        exact ⟨rfl, HFI.out⟩

theorem dDeletes_any (hC : Keeps M At 28 21 23 60 62 20 58 11) (id : Int) (hm : cs.length ≤ M) (hid : inR id) (h : Desk At w dk a b p cs mv G) :
    Calls Try.prog 14 #[.pointer (some ⟨dk, 0, none⟩), .int .i64 id] w fun e w' => e = .returned (.bool true) ∧ Moved At dk a b p (delRes cs id).2 (Do.movTo (Do.there cs) id mv (Do.there cs).length) G w w' := by
  obtain ⟨x, vi, vd, F, h⟩ := h
  exact dDeletes_in hC id hm hid h
end

end Go.Proofs.Ythkndfkkgncjfab

namespace Go.Proofs.Ythkndfkkgncjfab
open Go.RowKit
set_option maxRecDepth 100000

/-- which of n things a raw number speaks of -/
def pickN (c : Int) (n : Nat) : Nat := (if c < 0 then -(c + 1) else c).toNat % n
theorem pickN_lt (c : Int) (n : Nat) (h : 0 < n) : pickN c n < n := Nat.mod_lt _ h
theorem pickN_eq (c : Int) (n : Nat) : ((if c < 0 then -(c + 1) else c).tmod n) = (pickN c n : Int) := by
  have h0 : 0 ≤ (if c < 0 then -(c + 1) else c) := by split <;> omega
  unfold pickN
  generalize (if c < 0 then -(c + 1) else c) = d at *
  obtain ⟨m, rfl⟩ := Int.eq_ofNat_of_zero_le h0
  rw [Int.tmod_eq_emod_of_nonneg (by omega)]; rfl
theorem kpick_any (c : Int) (n : Nat) (hc : inR c) (hn : 0 < n) (hn2 : n ≤ 2000000000000) (w : World) :
    Calls Try.prog 19 #[.int .i64 c, .int .i64 (n : Int)] w fun e w' => e = .returned (.int .i64 (pickN c n : Int)) ∧ w' = w := by
  obtain ⟨hc1, hc2⟩ := hc
  have he := pickN_eq c n
  by_cases h : c < 0
  · rw [if_pos h] at he
    go_enter Try.func19, Try.ntmps19
    go_wp2
    go_ret
    exact ⟨rfl, rfl⟩
  · rw [if_neg h] at he
    go_enter Try.func19, Try.ntmps19
    go_wp2
    go_ret
    exact ⟨rfl, rfl⟩

set_option maxHeartbeats 1000000 in
theorem kconf_any (a b p : Int) (ha : inR a) (hb : inR b) (hp : inR p) (w : World) :
    Calls Try.prog 17 #[.agg #[.int .i64 a, .int .i64 b, .int .i64 p]] w fun e w' => e = .returned (.agg #[.int .i64 (1 + (pickN a 400 : Int)), .int .i64 (1 + (pickN b 80 : Int)), .int .i64 (1 + (pickN p 8 : Int))]) ∧ Below w.heap.size w w' := by
  have P1 := kpick_any a 400 ha (by omega) (by omega)
  have P2 := kpick_any b 80 hb (by omega) (by omega)
  have P3 := kpick_any p 8 hp (by omega) (by omega)
  have q1 := pickN_lt a 400 (by omega)
  have q2 := pickN_lt b 80 (by omega)
  have q3 := pickN_lt p 8 (by omega)
  generalize pickN a 400 = k1 at *
  generalize pickN b 80 = k2 at *
  generalize pickN p 8 = k3 at *
  have w1 : IntKind.i64.wrap (1 + (k1 : Int)) = 1 + (k1 : Int) := by rw [IntKind.wrap_i64]; omega
  have w2 : IntKind.i64.wrap (1 + (k2 : Int)) = 1 + (k2 : Int) := by rw [IntKind.wrap_i64]; omega
  have w3 : IntKind.i64.wrap (1 + (k3 : Int)) = 1 + (k3 : Int) := by rw [IntKind.wrap_i64]; omega
  go_enter Try.func17, Try.ntmps17
  go_wp2_with fail
  have y := World.news_of_block (Below.heap_alloc (w.alloc (.cells #[.int .i64 a, .int .i64 b, .int .i64 p] 23)) (.cells #[.int .i64 0, .int .i64 0, .int .i64 0] 23) w.heap.size (by simp) |>.trans (heap_alloc_new w (.cells #[.int .i64 a, .int .i64 b, .int .i64 p] 23)))
  have y0 : ((w.alloc (.cells #[.int .i64 a, .int .i64 b, .int .i64 p] 23)).alloc (.cells #[.int .i64 0, .int .i64 0, .int .i64 0] 23)).cell? ⟨w.heap.size, 0, none⟩ = some (.int .i64 a) := y 0 _ rfl
  have y1 : ((w.alloc (.cells #[.int .i64 a, .int .i64 b, .int .i64 p] 23)).alloc (.cells #[.int .i64 0, .int .i64 0, .int .i64 0] 23)).cell? ⟨w.heap.size, 1, none⟩ = some (.int .i64 b) := y 1 _ rfl
  have y2 : ((w.alloc (.cells #[.int .i64 a, .int .i64 b, .int .i64 p] 23)).alloc (.cells #[.int .i64 0, .int .i64 0, .int .i64 0] 23)).cell? ⟨w.heap.size, 2, none⟩ = some (.int .i64 p) := y 2 _ rfl
  clear y
  have hblk : ((w.alloc (.cells #[.int .i64 a, .int .i64 b, .int .i64 p] 23)).alloc (.cells #[.int .i64 0, .int .i64 0, .int .i64 0] 23)).heap[w.heap.size + 1]? = some (.cells #[.int .i64 0, .int .i64 0, .int .i64 0] 23 (0, 0)) := by
    have := heap_alloc_new (w.alloc (.cells #[.int .i64 a, .int .i64 b, .int .i64 p] 23)) (.cells #[.int .i64 0, .int .i64 0, .int .i64 0] 23)
    simpa using this
  have hb0 : Below w.heap.size w ((w.alloc (.cells #[.int .i64 a, .int .i64 b, .int .i64 p] 23)).alloc (.cells #[.int .i64 0, .int .i64 0, .int .i64 0] 23)) := ((Below.refl _ _).alloc (Nat.le_refl _) _).alloc (by simp) _
  generalize (w.alloc (.cells #[.int .i64 a, .int .i64 b, .int .i64 p] 23)).alloc (.cells #[.int .i64 0, .int .i64 0, .int .i64 0] 23) = wa at *
  refine wp_region_held_drew (S := fun w' => w'.cell? ⟨w.heap.size, 0, none⟩ = some (.int .i64 a) ∧ w'.cell? ⟨w.heap.size, 1, none⟩ = some (.int .i64 b) ∧ w'.cell? ⟨w.heap.size, 2, none⟩ = some (.int .i64 p)) (by kernel_rfl) ⟨y0, y1, y2⟩ (fun hHeld => ?_)
  refine wpAnyH_take (i := 0) (v := ?a0) rfl (by kernel_rfl) (by kernel_rfl) (by kernel_rfl) (fun _ _ _ h => h) (Or.inl ⟨by rfl, ?hya0⟩) (by assumption) ?resta0
  case hya0 => intro w hSw; (try dsimp only at hSw); go_simp; (try with_reducible rfl)
  simp only [Act.put]
  refine wpAnyH_take (i := 1) (v := ?a1) rfl (by kernel_rfl) (by kernel_rfl) (by kernel_rfl) (fun _ _ _ h => h) (Or.inl ⟨by rfl, ?hya1⟩) (by assumption) ?resta1
  case hya1 => intro w hSw; (try dsimp only at hSw); go_simp; (try with_reducible rfl)
  simp only [Act.put]
  refine wpAnyH_take (i := 4) (v := ?a4) rfl (by kernel_rfl) (by kernel_rfl) (by kernel_rfl) (fun _ _ _ h => h) (Or.inl ⟨by rfl, ?hya4⟩) (by assumption) ?resta4
  case hya4 => intro w hSw; (try dsimp only at hSw); go_simp; (try with_reducible rfl)
  simp only [Act.put]
  refine wpAnyH_take (i := 5) (v := ?a5) rfl (by kernel_rfl) (by kernel_rfl) (by kernel_rfl) (fun _ _ _ h => h) (Or.inl ⟨by rfl, ?hya5⟩) (by assumption) ?resta5
  case hya5 => intro w hSw; (try dsimp only at hSw); go_simp; (try with_reducible rfl)
  simp only [Act.put]
  refine wpAnyH_take (i := 8) (v := ?a8) rfl (by kernel_rfl) (by kernel_rfl) (by kernel_rfl) (fun _ _ _ h => h) (Or.inl ⟨by rfl, ?hya8⟩) (by assumption) ?resta8
  case hya8 => intro w hSw; (try dsimp only at hSw); go_simp; (try with_reducible rfl)
  simp only [Act.put]
  refine wpAnyH_take (i := 9) (v := ?a9) rfl (by kernel_rfl) (by kernel_rfl) (by kernel_rfl) (fun _ _ _ h => h) (Or.inl ⟨by rfl, ?hya9⟩) (by assumption) ?resta9
  case hya9 => intro w hSw; (try dsimp only at hSw); go_simp; (try with_reducible rfl)
  simp only [Act.put]
  refine wpAnyH_ready (rs := [2]) (by kernel_rfl) (by simp) ?_
  refine AllReadyH.cons rfl (fun K hK => ?_) AllReadyH.nil
  go_simp
  refine (P1 _).mono ?_
  rintro e up ⟨rfl, hup⟩
  rw [hup]
  clear hup
  refine hK.out _ _ (by exact hHeld) (fun hHeld => ?_)
  clear hK K
  refine wpAnyH_take (i := 3) (v := ?cp3) rfl (by kernel_rfl) (by kernel_rfl) (by kernel_rfl) (fun _ _ _ h => h) (Or.inl ⟨by rfl, ?hycp3⟩) (by assumption) ?restcp3
  case hycp3 => intro w hSw; (try dsimp only at hSw); go_simp; (try with_reducible rfl)
  simp only [Act.put]
  refine wpAnyH_ready (rs := [6]) (by kernel_rfl) (by simp) ?_
  refine AllReadyH.cons rfl (fun K hK => ?_) AllReadyH.nil
  go_simp
  refine (P2 _).mono ?_
  rintro e uq ⟨rfl, huq⟩
  rw [huq]
  clear huq
  refine hK.out _ _ (by exact hHeld) (fun hHeld => ?_)
  clear hK K
  refine wpAnyH_take (i := 7) (v := ?cq7) rfl (by kernel_rfl) (by kernel_rfl) (by kernel_rfl) (fun _ _ _ h => h) (Or.inl ⟨by rfl, ?hycq7⟩) (by assumption) ?restcq7
  case hycq7 => intro w hSw; (try dsimp only at hSw); go_simp; (try with_reducible rfl)
  simp only [Act.put]
  refine wpAnyH_ready (rs := [10]) (by kernel_rfl) (by simp) ?_
  refine AllReadyH.cons rfl (fun K hK => ?_) AllReadyH.nil
  go_simp
  refine (P3 _).mono ?_
  rintro e ur ⟨rfl, hur⟩
  rw [hur]
  clear hur
  refine hK.out _ _ (by exact hHeld) (fun hHeld => ?_)
  clear hK K
  refine wpAnyH_take (i := 11) (v := ?cr11) rfl (by kernel_rfl) (by kernel_rfl) (by kernel_rfl) (fun _ _ _ h => h) (Or.inl ⟨by rfl, ?hycr11⟩) (by assumption) ?restcr11
  case hycr11 => intro w hSw; (try dsimp only at hSw); go_simp; (try with_reducible rfl)
  simp only [Act.put]
  refine wpAnyH_take (i := 12) (v := ?cr12) rfl (by kernel_rfl) (by kernel_rfl) (by kernel_rfl) (fun _ _ _ h => h) (Or.inl ⟨by rfl, ?hycr12⟩) (by assumption) ?restcr12
  case hycr12 => intro w hSw; (try dsimp only at hSw); go_simp; (try with_reducible rfl)
  simp only [Act.put]
  refine wpAnyH_ready (rs := [13]) (by kernel_rfl) (by simp) ?_
  refine AllReadyH.cons rfl (fun K hK => ?_) AllReadyH.nil
  have r0 : wa.cell? ⟨w.heap.size + 1, 0, none⟩ = some (.int .i64 0) := by rw [cell_of_row wa _ 0 _ 23 (0, 0) hblk]; rfl
  have r1 : wa.cell? ⟨w.heap.size + 1, 1, none⟩ = some (.int .i64 0) := by rw [cell_of_row wa _ 1 _ 23 (0, 0) hblk]; rfl
  have r2 : wa.cell? ⟨w.heap.size + 1, 2, none⟩ = some (.int .i64 0) := by rw [cell_of_row wa _ 2 _ 23 (0, 0) hblk]; rfl
  have g0 : ∀ j, wa.frozen? ⟨w.heap.size + 1, j, none⟩ = false := fun j => frozen_of_row wa _ j _ 23 hblk
  have g00 := g0 0
  have g01 := g0 1
  have g02 := g0 2
  go_simp
  have hset : (((wa.setCell ⟨w.heap.size + 1, 0, none⟩ (.int .i64 (1 + (k1 : Int)))).setCell ⟨w.heap.size + 1, 1, none⟩ (.int .i64 (1 + (k2 : Int)))).setCell ⟨w.heap.size + 1, 2, none⟩ (.int .i64 (1 + (k3 : Int)))).heap[w.heap.size + 1]? = some (.cells #[.int .i64 (1 + (k1 : Int)), .int .i64 (1 + (k2 : Int)), .int .i64 (1 + (k3 : Int))] 23 (0, 0)) := by
    have s1 := (heap_setCell_same wa (w.heap.size + 1) 0 _ 23 (.int .i64 (1 + (k1 : Int))) hblk)
    have s2 := (heap_setCell_same _ (w.heap.size + 1) 1 _ 23 (.int .i64 (1 + (k2 : Int))) s1)
    have s3 := (heap_setCell_same _ (w.heap.size + 1) 2 _ 23 (.int .i64 (1 + (k3 : Int))) s2)
    exact s3
  have hkeep : ∀ k, k ≠ w.heap.size + 1 → (((wa.setCell ⟨w.heap.size + 1, 0, none⟩ (.int .i64 (1 + (k1 : Int)))).setCell ⟨w.heap.size + 1, 1, none⟩ (.int .i64 (1 + (k2 : Int)))).setCell ⟨w.heap.size + 1, 2, none⟩ (.int .i64 (1 + (k3 : Int)))).heap[k]? = wa.heap[k]? := fun k hk => by
    rw [Below.heap_setCell _ ⟨w.heap.size + 1, 2, none⟩ _ k hk, Below.heap_setCell _ ⟨w.heap.size + 1, 1, none⟩ _ k hk, Below.heap_setCell _ ⟨w.heap.size + 1, 0, none⟩ _ k hk]
  have hb9 : Below w.heap.size w (((wa.setCell ⟨w.heap.size + 1, 0, none⟩ (.int .i64 (1 + (k1 : Int)))).setCell ⟨w.heap.size + 1, 1, none⟩ (.int .i64 (1 + (k2 : Int)))).setCell ⟨w.heap.size + 1, 2, none⟩ (.int .i64 (1 + (k3 : Int)))) := ((hb0.setCell (p := ⟨w.heap.size + 1, 0, none⟩) (by show w.heap.size ≤ w.heap.size + 1; omega) _).setCell (p := ⟨w.heap.size + 1, 1, none⟩) (by show w.heap.size ≤ w.heap.size + 1; omega) _).setCell (p := ⟨w.heap.size + 1, 2, none⟩) (by show w.heap.size ≤ w.heap.size + 1; omega) _
  generalize ((wa.setCell ⟨w.heap.size + 1, 0, none⟩ (.int .i64 (1 + (k1 : Int)))).setCell ⟨w.heap.size + 1, 1, none⟩ (.int .i64 (1 + (k2 : Int)))).setCell ⟨w.heap.size + 1, 2, none⟩ (.int .i64 (1 + (k3 : Int))) = wz at *
  have S9 : wz.drew.cell? ⟨w.heap.size, 0, none⟩ = some (.int .i64 a) ∧ wz.drew.cell? ⟨w.heap.size, 1, none⟩ = some (.int .i64 b) ∧ wz.drew.cell? ⟨w.heap.size, 2, none⟩ = some (.int .i64 p) := by
    have hk := hkeep w.heap.size (by omega)
    exact ⟨(World.cell?_of_block (a := ⟨w.heap.size, 0, none⟩) hk).trans y0, (World.cell?_of_block (a := ⟨w.heap.size, 1, none⟩) hk).trans y1, (World.cell?_of_block (a := ⟨w.heap.size, 2, none⟩) hk).trans y2⟩
  refine hK.out _ _ S9 (fun _ => ?_)
  clear hK K
  refine wpAnyH_done (by kernel_rfl) ?_ _
  have z0 : wz.drew.cell? ⟨w.heap.size + 1, 0, none⟩ = some (.int .i64 (1 + (k1 : Int))) := by rw [cell_of_row wz.drew _ 0 _ 23 (0, 0) hset]; rfl
  have z1 : wz.drew.cell? ⟨w.heap.size + 1, 1, none⟩ = some (.int .i64 (1 + (k2 : Int))) := by rw [cell_of_row wz.drew _ 1 _ 23 (0, 0) hset]; rfl
  have z2 : wz.drew.cell? ⟨w.heap.size + 1, 2, none⟩ = some (.int .i64 (1 + (k3 : Int))) := by rw [cell_of_row wz.drew _ 2 _ 23 (0, 0) hset]; rfl
  go_wp2
  refine bodyPost_ret (by simp [results, Try.results17, go_sem, z0, z1, z2]; try rfl) rfl ?_
  exact ⟨rfl, hb9.drew⟩

set_option maxHeartbeats 400000 in
theorem kopened_any {M : Nat} {At : World → Nat → Int → Int → Int → List Do.Chg → (Nat → Prop) → Prop} (hC : Keeps M At 28 21 23 60 62 20 58 11) (a b p : Int) (w : World) (hc : okc a b p) :
    Calls Try.prog 18 #[.agg #[.int .i64 a, .int .i64 b, .int .i64 p]] w fun e w' => ∃ x F, e = .returned (.pointer (some ⟨x, 0, none⟩)) ∧ At w' x a b p [] F ∧ (∀ k, F k → w.heap.size ≤ k) ∧ Below w.heap.size w w' := by
  go_enter Try.func18, Try.ntmps18
  go_wp2_with fail
  have hb0 : Below w.heap.size w (w.alloc (.cells #[.int .i64 a, .int .i64 b, .int .i64 p] 23)) := (Below.refl _ _).alloc (Nat.le_refl _) _
  refine (hC.new_ok a b p _ hc).mono ?_
  rintro e w1 ⟨x, F, rfl, hx, hF, hb1⟩
  have hs : (w.alloc (.cells #[.int .i64 a, .int .i64 b, .int .i64 p] 23)).heap.size = w.heap.size + 1 := by simp
  go_wp2_with fail
  go_ret
  exact ⟨x, F, rfl, hx, fun k hk => by have := hF k hk; omega, hb0.trans (hb1.mono (by omega))⟩

/-- the configuration that comes of a raw one -/
def cA (a : Int) : Int := 1 + (pickN a 400 : Int)
def cB (a : Int) : Int := 1 + (pickN a 80 : Int)
def cP (a : Int) : Int := 1 + (pickN a 8 : Int)
theorem conf_ok (a b p : Int) : okc (cA a) (cB b) (cP p) := by
  have q1 := pickN_lt a 400 (by omega)
  have q2 := pickN_lt b 80 (by omega)
  have q3 := pickN_lt p 8 (by omega)
  unfold okc cA cB cP
  omega

set_option maxHeartbeats 1000000 in
theorem kseated_any {M : Nat} {At : World → Nat → Int → Int → Int → List Do.Chg → (Nat → Prop) → Prop} (hC : Keeps M At 28 21 23 60 62 20 58 11) (a b p : Int) (ha : inR a) (hb : inR b) (hp : inR p) (w : World) :
    Calls Try.prog 7 #[.agg #[.int .i64 a, .int .i64 b, .int .i64 p]] w fun e w' => ∃ dk G, e = .returned (.pointer (some ⟨dk, 0, none⟩)) ∧ Desk At w' dk (cA a) (cB b) (cP p) [] 0 G ∧ (∀ k, G k → w.heap.size ≤ k) ∧ Below w.heap.size w w' := by
  have hc := conf_ok a b p
  have HK := kconf_any a b p ha hb hp
  have HK' : ∀ (w : World), Calls Try.prog 17 #[.agg #[.int .i64 a, .int .i64 b, .int .i64 p]] w fun e w' => e = .returned (.agg #[.int .i64 (cA a), .int .i64 (cB b), .int .i64 (cP p)]) ∧ Below w.heap.size w w' := HK
  clear HK
  generalize cA a = a1 at *
  generalize cB b = b1 at *
  generalize cP p = p1 at *
  go_enter Try.func7, Try.ntmps7
  go_wp2_with fail
  have hb0 : Below w.heap.size w (w.alloc (.cells #[.int .i64 a, .int .i64 b, .int .i64 p] 23)) := (Below.refl _ _).alloc (Nat.le_refl _) _
  have hs0 : (w.alloc (.cells #[.int .i64 a, .int .i64 b, .int .i64 p] 23)).heap.size = w.heap.size + 1 := by simp
  generalize w.alloc (.cells #[.int .i64 a, .int .i64 b, .int .i64 p] 23) = w0 at *
  refine (HK' _).mono ?_
  rintro e w1 ⟨rfl, hb1⟩
  have s1 := hb1.size
  clear HK'
  have y := World.news_of_block (heap_alloc_new w1 (.cells #[.int .i64 a1, .int .i64 b1, .int .i64 p1] 23))
  have y0 : (w1.alloc (.cells #[.int .i64 a1, .int .i64 b1, .int .i64 p1] 23)).cell? ⟨w1.heap.size, 0, none⟩ = some (.int .i64 a1) := y 0 _ rfl
  have y1 : (w1.alloc (.cells #[.int .i64 a1, .int .i64 b1, .int .i64 p1] 23)).cell? ⟨w1.heap.size, 1, none⟩ = some (.int .i64 b1) := y 1 _ rfl
  have y2 : (w1.alloc (.cells #[.int .i64 a1, .int .i64 b1, .int .i64 p1] 23)).cell? ⟨w1.heap.size, 2, none⟩ = some (.int .i64 p1) := y 2 _ rfl
  have hs2 : (w1.alloc (.cells #[.int .i64 a1, .int .i64 b1, .int .i64 p1] 23)).heap.size = w1.heap.size + 1 := by simp
  have hb2 : Below w.heap.size w (w1.alloc (.cells #[.int .i64 a1, .int .i64 b1, .int .i64 p1] 23)) := (hb0.trans (hb1.mono (by omega))).alloc (by omega) _
  clear y
  go_wp2_with fail
  generalize w1.alloc (.cells #[.int .i64 a1, .int .i64 b1, .int .i64 p1] 23) = w2 at *
  refine (kopened_any hC a1 b1 p1 _ hc).mono ?_
  rintro e w3 ⟨x, F, rfl, hx, hF, hb3⟩
  have s3 := hb3.size
  have z0 := (hb3.cell (p := ⟨w1.heap.size, 0, none⟩) (by show w1.heap.size < w2.heap.size; omega)).trans y0
  have z1 := (hb3.cell (p := ⟨w1.heap.size, 1, none⟩) (by show w1.heap.size < w2.heap.size; omega)).trans y1
  have z2 := (hb3.cell (p := ⟨w1.heap.size, 2, none⟩) (by show w1.heap.size < w2.heap.size; omega)).trans y2
  clear y0 y1 y2
  go_wp2_with fail
  go_ret
  have hblk := heap_alloc_new w3 (.cells #[.pointer (some ⟨x, 0, none⟩), .int .i64 a1, .int .i64 b1, .int .i64 p1, .slice none 0 0, .slice none 0 0, .int .i64 0, .int .i64 0, .int .i64 0] 38)
  have hba : Below w3.heap.size w3 (w3.alloc (.cells #[.pointer (some ⟨x, 0, none⟩), .int .i64 a1, .int .i64 b1, .int .i64 p1, .slice none 0 0, .slice none 0 0, .int .i64 0, .int .i64 0, .int .i64 0] 38)) := (Below.refl _ _).alloc (Nat.le_refl _) _
  have hFl := hC.lt hx
  refine ⟨w3.heap.size, fun k => F k ∨ k = w3.heap.size, rfl, ⟨x, .slice none 0 0, .slice none 0 0, F, ?_⟩, fun k hk => ?_, (hb2.trans (hb3.mono (by omega))).trans (hba.mono (by omega))⟩
  · exact {
      blk := hblk
      ri := World.ownsRow_nil _ _ _ _
      rd := World.ownsRow_nil _ _ _ _
      idx := hC.frame hx hba.size fun k hk => hba.block k (hFl k hk)
      fair := Fair.nil
      conf := hc
      nd := fun hf => by have := hFl _ hf; omega
      ni := fun g hg => by simp [Value.ownBlock] at hg
      nv := fun g hg => by simp [Value.ownBlock] at hg
      gd := .inr rfl
      gf := fun k hk => .inl hk
      gi := fun g hg => by simp [Value.ownBlock] at hg
      gv := fun g hg => by simp [Value.ownBlock] at hg
      lt := fun k hk => by
        rcases hk with hk | rfl
        · have := hFl k hk; simp; omega
        · simp }
  · rcases hk with hk | rfl
    · have := hF k hk; omega
    · omega

/-- a step of a desk's script -/
structure StV where
  k : Int
  a : Int
  s : ByteArray
def stV (o : StV) : Value := .agg #[.int .i64 o.k, .int .i64 o.a, .string o.s]
def StV.ok (o : StV) : Prop := inR o.k ∧ inR o.a ∧ o.s.size ≤ maxLen
/-- the changes behind a step -/
def stRes (a : Int) (cs : List Do.Chg) (o : StV) : List Do.Chg :=
  if o.k = 1 then (insRes cs a o.s).2.2 else if o.k = 2 then (if (Do.there cs).length = 0 then cs else (delRes cs ((((Do.there cs).map (·.id)).getD (pickN o.a (Do.there cs).length) 0 : Nat) : Int)).2) else if o.k = 3 then (delRes cs o.a).2 else cs
/-- the weight of what came or went -/
def stMv (a : Int) (cs : List Do.Chg) (o : StV) : Int :=
  if o.k = 1 then insMv cs a o.s 0 else if o.k = 2 then (if (Do.there cs).length = 0 then 0 else Do.movTo (Do.there cs) ((((Do.there cs).map (·.id)).getD (pickN o.a (Do.there cs).length) 0 : Nat) : Int) 0 (Do.there cs).length) else if o.k = 3 then Do.movTo (Do.there cs) o.a 0 (Do.there cs).length else 0
theorem stRes_len (a : Int) (cs : List Do.Chg) (o : StV) : (stRes a cs o).length ≤ cs.length + 1 := by
  unfold stRes
  split
  · exact insRes_len' _ _ _
  · split
    · split
      · omega
      · exact delRes_len' _ _
    · split
      · exact delRes_len' _ _
      · omega

section
variable {M : Nat} {At : World → Nat → Int → Int → Int → List Do.Chg → (Nat → Prop) → Prop} {w w' : World} {dk x : Nat} {a b p : Int} {cs : List Do.Chg} {mv : Int} {vi vd : Value} {F G : Nat → Prop}

theorem DeskIn.still (h : DeskIn At w dk x a b p cs mv vi vd F G) (hC : Keeps M At 28 21 23 60 62 20 58 11) (n : Int) : DeskIn At (w.setCell ⟨dk, 8, none⟩ (.int .i64 n)) dk x a b p cs n vi vd F G where
  blk := h.blk.set8 n
  ri := ownsRow_setCell_other (a := ⟨dk, 8, none⟩) h.ri (h.blk.apart h.ri (by decide)) _
  rd := ownsRow_setCell_other (a := ⟨dk, 8, none⟩) h.rd (h.blk.apart h.rd (by decide)) _
  idx := hC.frame h.idx (by simp) fun k hk => Below.heap_setCell w ⟨dk, 8, none⟩ _ k (fun e => h.nd (by have e' : k = dk := e; rw [← e']; exact hk))
  fair := h.fair
  conf := h.conf
  nd := h.nd
  ni := h.ni
  nv := h.nv
  gd := h.gd
  gf := h.gf
  gi := h.gi
  gv := h.gv
  lt k hk := by simpa using h.lt k hk

theorem Moved.after {w1 : World} {cs' : List Do.Chg} {mv' : Int} (ho : Only G w w1) (hm : Moved At dk a b p cs' mv' G w1 w') : Moved At dk a b p cs' mv' G w w' := by
  obtain ⟨h1, G', h2, h3⟩ := hm
  exact ⟨ho.trans h1, G', h2, fun k hk => (h3 k hk).imp (fun h => h) (fun h => by have := ho.size; omega)⟩
theorem DeskIn.moved (h : DeskIn At w dk x a b p cs mv vi vd F G) : Moved At dk a b p cs mv G w w := ⟨Only.refl _ _, G, ⟨x, vi, vd, F, h⟩, fun _ h => .inl h⟩

set_option maxHeartbeats 1000000 in
theorem dStep_told (hC : Keeps M At 28 21 23 60 62 20 58 11) (o : StV) (ho : o.ok) (hm : cs.length ≤ M) (hM : M ≤ 9000000000000000) (h : Desk At w dk a b p cs mv G) :
    Calls Try.prog 8 #[.pointer (some ⟨dk, 0, none⟩), stV o] w fun e w' => e = .returned (.bool true) ∧ Moved At dk a b p (stRes a cs o) (stMv a cs o) G w w' := by
  obtain ⟨x, vi, vd, F, h⟩ := h
  obtain ⟨ok, oa, os⟩ := o
  obtain ⟨hk, ha, hs⟩ := ho
  dsimp only at hk ha hs
  have hs' : os.size ≤ 9223372036854775807 := by unfold maxLen at hs; omega
  unfold stV
  dsimp only
  have hst := h.still hC 0
  have hba : Below w.heap.size (w.setCell ⟨dk, 8, none⟩ (.int .i64 0)) ((w.setCell ⟨dk, 8, none⟩ (.int .i64 0)).alloc (.cells #[.int .i64 ok, .int .i64 oa, .string os] 29)) := (Below.refl _ _).alloc (by simp) _
  have hWO : Only G w ((w.setCell ⟨dk, 8, none⟩ (.int .i64 0)).alloc (.cells #[.int .i64 ok, .int .i64 oa, .string os] 29)) := (Only.setCell ⟨dk, 8, none⟩ _ h.gd).trans (Only.of_below (by simpa using hba))
  have hsz0 : (w.setCell ⟨dk, 8, none⟩ (.int .i64 0)).heap.size = w.heap.size := by simp
  have h1 : DeskIn At ((w.setCell ⟨dk, 8, none⟩ (.int .i64 0)).alloc (.cells #[.int .i64 ok, .int .i64 oa, .string os] 29)) dk x a b p cs 0 vi vd F G := hst.quiet hC (by rw [hsz0]; exact hba)
  have y := World.news_of_block (heap_alloc_new (w.setCell ⟨dk, 8, none⟩ (.int .i64 0)) (.cells #[.int .i64 ok, .int .i64 oa, .string os] 29))
  rw [hsz0] at y
  have y0 : ((w.setCell ⟨dk, 8, none⟩ (.int .i64 0)).alloc (.cells #[.int .i64 ok, .int .i64 oa, .string os] 29)).cell? ⟨w.heap.size, 0, none⟩ = some (.int .i64 ok) := y 0 _ rfl
  have y1 : ((w.setCell ⟨dk, 8, none⟩ (.int .i64 0)).alloc (.cells #[.int .i64 ok, .int .i64 oa, .string os] 29)).cell? ⟨w.heap.size, 1, none⟩ = some (.int .i64 oa) := y 1 _ rfl
  have y2 : ((w.setCell ⟨dk, 8, none⟩ (.int .i64 0)).alloc (.cells #[.int .i64 ok, .int .i64 oa, .string os] 29)).cell? ⟨w.heap.size, 2, none⟩ = some (.string os) := y 2 _ rfl
  have c8 := h.blk.c8
  have f8 := h.blk.free 8
  have hdk := h.lt dk h.gd
  have hne : w.heap.size ≠ dk := by omega
  clear y hst hba
  have HW : Hid (∀ cs' mv' w', Moved At dk a b p cs' mv' G ((w.setCell ⟨dk, 8, none⟩ (.int .i64 0)).alloc (.cells #[.int .i64 ok, .int .i64 oa, .string os] 29)) w' → Moved At dk a b p cs' mv' G w w') := fun _ _ _ hm => hm.after hWO
  clear hWO
  by_cases k1 : ok = 1
  · subst k1
    have e : stRes a cs ⟨1, oa, os⟩ = (insRes cs a os).2.2 := by unfold stRes; rw [if_pos rfl]
    have em : stMv a cs ⟨1, oa, os⟩ = insMv cs a os 0 := by unfold stMv; rw [if_pos rfl]
    rw [e, em]
    have HI : Hid (Calls Try.prog 12 #[.pointer (some ⟨dk, 0, none⟩), .string os] ((w.setCell ⟨dk, 8, none⟩ (.int .i64 0)).alloc (.cells #[.int .i64 1, .int .i64 oa, .string os] 29)) fun e w' => e = .returned (.bool true) ∧ Moved At dk a b p (insRes cs a os).2.2 (insMv cs a os 0) G ((w.setCell ⟨dk, 8, none⟩ (.int .i64 0)).alloc (.cells #[.int .i64 1, .int .i64 oa, .string os] 29)) w') := dInserts_any hC os hm hM hs' ⟨x, vi, vd, F, h1⟩
    clear h h1 e em
    go_enter Try.func8, Try.ntmps8
    go_wp2_with fail
    refine HI.out.mono ?_
    rintro e w1 ⟨rfl, hmo⟩
    go_wp2_with fail
    go_ret
    exact ⟨rfl, HW.out _ _ _ hmo⟩
  · have b1 : (ok == 1) = false := by simpa using k1
    by_cases k3 : ok = 3
    · subst k3
      have e : stRes a cs ⟨3, oa, os⟩ = (delRes cs oa).2 := by unfold stRes; rw [if_neg (by simp), if_neg (by simp), if_pos rfl]
      have em : stMv a cs ⟨3, oa, os⟩ = Do.movTo (Do.there cs) oa 0 (Do.there cs).length := by unfold stMv; rw [if_neg (by simp), if_neg (by simp), if_pos rfl]
      rw [e, em]
      have HI : Hid (Calls Try.prog 14 #[.pointer (some ⟨dk, 0, none⟩), .int .i64 oa] ((w.setCell ⟨dk, 8, none⟩ (.int .i64 0)).alloc (.cells #[.int .i64 3, .int .i64 oa, .string os] 29)) fun e w' => e = .returned (.bool true) ∧ Moved At dk a b p (delRes cs oa).2 (Do.movTo (Do.there cs) oa 0 (Do.there cs).length) G ((w.setCell ⟨dk, 8, none⟩ (.int .i64 0)).alloc (.cells #[.int .i64 3, .int .i64 oa, .string os] 29)) w') := dDeletes_any hC oa hm ha ⟨x, vi, vd, F, h1⟩
      clear h h1 e em
      go_enter Try.func8, Try.ntmps8
      go_wp2_with fail
      refine HI.out.mono ?_
      rintro e w1 ⟨rfl, hmo⟩
      go_wp2_with fail
      go_ret
      exact ⟨rfl, HW.out _ _ _ hmo⟩
    · have b3 : (ok == 3) = false := by simpa using k3
      by_cases k2 : ok = 2
      · subst k2
        have c4 := h1.blk.c4
        obtain ⟨ai, ci, hvi, hri⟩ := row_any h1.ri
        rw [hvi] at c4
        have hfew := h.fair.few
        by_cases hz : (Do.there cs).length = 0
        · have e : stRes a cs ⟨2, oa, os⟩ = cs := by unfold stRes; rw [if_neg (by simp), if_pos rfl, if_pos hz]
          have em : stMv a cs ⟨2, oa, os⟩ = 0 := by unfold stMv; rw [if_neg (by simp), if_pos rfl, if_pos hz]
          rw [e, em]
          have HM : Hid (Moved At dk a b p cs 0 G w ((w.setCell ⟨dk, 8, none⟩ (.int .i64 0)).alloc (.cells #[.int .i64 2, .int .i64 oa, .string os] 29))) := HW.out _ _ _ h1.moved
          rw [hz] at c4
          clear h h1 e em hri hvi
          go_enter Try.func8, Try.ntmps8
          go_wp2_with fail
          go_ret
          exact ⟨rfl, HM.out⟩
        · have hpos : 0 < (Do.there cs).length := by omega
          obtain ⟨c, hc⟩ : ∃ c, (Do.there cs)[pickN oa (Do.there cs).length]? = some c := ⟨(Do.there cs)[pickN oa (Do.there cs).length]'(pickN_lt _ _ hpos), List.getElem?_eq_getElem _⟩
          have e : stRes a cs ⟨2, oa, os⟩ = (delRes cs (c.id : Int)).2 := by
            unfold stRes
            rw [if_neg (by simp), if_pos rfl, if_neg hz]
            simp [hc]
          have em : stMv a cs ⟨2, oa, os⟩ = Do.movTo (Do.there cs) (c.id : Int) 0 (Do.there cs).length := by
            unfold stMv
            rw [if_neg (by simp), if_pos rfl, if_neg hz]
            simp [hc]
          rw [e, em]
          obtain ⟨gi, rfl, e4⟩ := hri (pickN oa (Do.there cs).length) (.int .i64 (c.id : Int)) (by simp [ID, hc])
          have hpk := kpick_any oa (Do.there cs).length ha hpos (by omega)
          have hplt := pickN_lt oa (Do.there cs).length hpos
          have hcid := h.fair.next c (List.mem_of_getElem? hc)
          have hit := insTo_le cs cs.length
          have HI : Hid (Calls Try.prog 14 #[.pointer (some ⟨dk, 0, none⟩), .int .i64 (c.id : Int)] ((w.setCell ⟨dk, 8, none⟩ (.int .i64 0)).alloc (.cells #[.int .i64 2, .int .i64 oa, .string os] 29)).drew fun e w' => e = .returned (.bool true) ∧ Moved At dk a b p (delRes cs (c.id : Int)).2 (Do.movTo (Do.there cs) c.id 0 (Do.there cs).length) G ((w.setCell ⟨dk, 8, none⟩ (.int .i64 0)).alloc (.cells #[.int .i64 2, .int .i64 oa, .string os] 29)).drew w') := dDeletes_any hC (c.id : Int) hm (by unfold inR; omega) ⟨x, vi, vd, F, h1.quiet hC ((Below.refl _ _).drew)⟩
          have hGw : ¬ G w.heap.size := fun hg => by have := h.lt _ hg; omega
          have HS : Hid (∀ w', Only G ((w.setCell ⟨dk, 8, none⟩ (.int .i64 0)).alloc (.cells #[.int .i64 2, .int .i64 oa, .string os] 29)).drew w' → w'.cell? ⟨w.heap.size, 1, none⟩ = some (.int .i64 oa)) := fun w' hon =>
            (World.cell?_of_block (a := ⟨w.heap.size, 1, none⟩) (hon.block w.heap.size (by simp) hGw)).trans y1
          have HDR : Hid (Only G ((w.setCell ⟨dk, 8, none⟩ (.int .i64 0)).alloc (.cells #[.int .i64 2, .int .i64 oa, .string os] 29)) ((w.setCell ⟨dk, 8, none⟩ (.int .i64 0)).alloc (.cells #[.int .i64 2, .int .i64 oa, .string os] 29)).drew) := Only.of_below ((Below.refl _ _).drew)
          have hn0 : decide ((0 : Int) < ((Do.there cs).length : Int)) = true := by rw [decide_eq_true_eq]; omega
          clear h h1 e em hri hvi hc
          generalize pickN oa (Do.there cs).length = kk at *
          generalize hlen : (Do.there cs).length = len at *
          have hkl : (kk : Int) < (len : Int) := by omega
          go_enter Try.func8, Try.ntmps8
          go_wp2_with fail
          refine wp_region_held_drew (S := fun w' => w'.cell? ⟨w.heap.size, 1, none⟩ = some (.int .i64 oa)) (by kernel_rfl) y1 (fun hHeld => ?_)
          refine wpAnyH_take (i := 0) (v := ?t1_0) rfl (by kernel_rfl) (by kernel_rfl) (by kernel_rfl) (fun _ _ _ h => h) (Or.inl ⟨by rfl, ?hyt1_0⟩) (by assumption) ?restt1_0
          case hyt1_0 => intro w hSw; (try dsimp only at hSw); go_simp; (try with_reducible rfl)
          simp only [Act.put]
          refine wpAnyH_take (i := 1) (v := ?t1_1) rfl (by kernel_rfl) (by kernel_rfl) (by kernel_rfl) (fun _ _ _ h => h) (Or.inl ⟨by rfl, ?hyt1_1⟩) (by assumption) ?restt1_1
          case hyt1_1 => intro w hSw; (try dsimp only at hSw); go_simp; (try with_reducible rfl)
          simp only [Act.put]
          refine wpAnyH_take (i := 2) (v := ?t1_2) rfl (by kernel_rfl) (by kernel_rfl) (by kernel_rfl) (fun _ _ _ h => h) (Or.inl ⟨by rfl, ?hyt1_2⟩) (by assumption) ?restt1_2
          case hyt1_2 => intro w hSw; (try dsimp only at hSw); go_simp; (try with_reducible rfl)
          simp only [Act.put]
          refine wpAnyH_take (i := 3) (v := ?t1_3) rfl (by kernel_rfl) (by kernel_rfl) (by kernel_rfl) (fun _ _ _ h => h) (Or.inl ⟨by rfl, ?hyt1_3⟩) (by assumption) ?restt1_3
          case hyt1_3 => intro w hSw; (try dsimp only at hSw); go_simp; (try with_reducible rfl)
          simp only [Act.put]
          refine wpAnyH_take (i := 5) (v := ?t1_5) rfl (by kernel_rfl) (by kernel_rfl) (by kernel_rfl) (fun _ _ _ h => h) (Or.inl ⟨by rfl, ?hyt1_5⟩) (by assumption) ?restt1_5
          case hyt1_5 => intro w hSw; (try dsimp only at hSw); go_simp; (try with_reducible rfl)
          simp only [Act.put]
          refine wpAnyH_take (i := 6) (v := ?t1_6) rfl (by kernel_rfl) (by kernel_rfl) (by kernel_rfl) (fun _ _ _ h => h) (Or.inl ⟨by rfl, ?hyt1_6⟩) (by assumption) ?restt1_6
          case hyt1_6 => intro w hSw; (try dsimp only at hSw); go_simp; (try with_reducible rfl)
          simp only [Act.put]
          refine wpAnyH_take (i := 7) (v := ?t1_7) rfl (by kernel_rfl) (by kernel_rfl) (by kernel_rfl) (fun _ _ _ h => h) (Or.inl ⟨by rfl, ?hyt1_7⟩) (by assumption) ?restt1_7
          case hyt1_7 => intro w hSw; (try dsimp only at hSw); go_simp; (try with_reducible rfl)
          simp only [Act.put]
          refine wpAnyH_take (i := 8) (v := ?t1_8) rfl (by kernel_rfl) (by kernel_rfl) (by kernel_rfl) (fun _ _ _ h => h) (Or.inl ⟨by rfl, ?hyt1_8⟩) (by assumption) ?restt1_8
          case hyt1_8 => intro w hSw; (try dsimp only at hSw); go_simp; (try with_reducible rfl)
          simp only [Act.put]
          refine wpAnyH_take (i := 9) (v := ?t1_9) rfl (by kernel_rfl) (by kernel_rfl) (by kernel_rfl) (fun _ _ _ h => h) (Or.inl ⟨by rfl, ?hyt1_9⟩) (by assumption) ?restt1_9
          case hyt1_9 => intro w hSw; (try dsimp only at hSw); go_simp; (try with_reducible rfl)
          simp only [Act.put]
          refine wpAnyH_ready (rs := [4, 10]) (by kernel_rfl) (by simp) ?_
          refine AllReadyH.cons rfl (fun K hK => ?_) (AllReadyH.cons rfl (fun K hK => ?_) AllReadyH.nil)
          · go_simp
            refine hK.out _ _ (by exact hHeld) (fun hHeld => ?_)
            clear hK K
            refine wpAnyH_ready (rs := [10]) (by kernel_rfl) (by simp) ?_
            refine AllReadyH.cons rfl (fun K hK => ?_) AllReadyH.nil
            go_simp
            refine hK.out _ _ (by exact hHeld) (fun hHeld => ?_)
            clear hK K
            refine wpAnyH_take (i := 11) (v := ?t2_11) rfl (by kernel_rfl) (by kernel_rfl) (by kernel_rfl) (fun _ _ _ h => h) (Or.inl ⟨by rfl, ?hyt2_11⟩) (by assumption) ?restt2_11
            case hyt2_11 => intro w hSw; (try dsimp only at hSw); go_simp; (try with_reducible rfl)
            simp only [Act.put]
            refine wpAnyH_ready (rs := [12]) (by kernel_rfl) (by simp) ?_
            refine AllReadyH.cons rfl (fun K hK => ?_) AllReadyH.nil
            go_simp
            refine (hpk _).mono ?_
            rintro e up ⟨rfl, hup⟩
            rw [hup]
            clear hup
            refine hK.out _ _ (by exact hHeld) (fun hHeld => ?_)
            clear hK K
            refine wpAnyH_take (i := 13) (v := ?t3_13) rfl (by kernel_rfl) (by kernel_rfl) (by kernel_rfl) (fun _ _ _ h => h) (Or.inl ⟨by rfl, ?hyt3_13⟩) (by assumption) ?restt3_13
            case hyt3_13 => intro w hSw; (try dsimp only at hSw); go_simp; (try with_reducible rfl)
            simp only [Act.put]
            refine wpAnyH_ready (rs := [14]) (by kernel_rfl) (by simp) ?_
            refine AllReadyH.cons rfl (fun K hK => ?_) AllReadyH.nil
            go_simp
            refine hK.out _ _ (by exact hHeld) (fun hHeld => ?_)
            clear hK K
            refine wpAnyH_ready (rs := [15]) (by kernel_rfl) (by simp) ?_
            refine AllReadyH.cons rfl (fun K hK => ?_) AllReadyH.nil
            go_simp
            refine HI.out.mono ?_
            rintro e w1 ⟨rfl, hmo⟩
            refine hK.out _ _ (HS.out _ hmo.1) (fun hHeld => ?_)
            clear hK K
            refine wpAnyH_ready (rs := [16]) (by kernel_rfl) (by simp) ?_
            refine AllReadyH.cons rfl (fun K hK => ?_) AllReadyH.nil
            go_simp
            refine hK.out _ _ hHeld (fun hHeld => ?_)
            clear hK K
            refine wpAnyH_done (by kernel_rfl) ?_ _
            go_wp2
            go_ret
            exact ⟨rfl, HW.out _ _ _ (hmo.after HDR.out)⟩
          · go_simp
            refine hK.out _ _ (by exact hHeld) (fun hHeld => ?_)
            clear hK K
            refine wpAnyH_take (i := 11) (v := ?t5_11) rfl (by kernel_rfl) (by kernel_rfl) (by kernel_rfl) (fun _ _ _ h => h) (Or.inl ⟨by rfl, ?hyt5_11⟩) (by assumption) ?restt5_11
            case hyt5_11 => intro w hSw; (try dsimp only at hSw); go_simp; (try with_reducible rfl)
            simp only [Act.put]
            refine wpAnyH_ready (rs := [4, 12]) (by kernel_rfl) (by simp) ?_
            refine AllReadyH.cons rfl (fun K hK => ?_) (AllReadyH.cons rfl (fun K hK => ?_) AllReadyH.nil)
            · go_simp
              refine hK.out _ _ (by exact hHeld) (fun hHeld => ?_)
              clear hK K
              refine wpAnyH_ready (rs := [12]) (by kernel_rfl) (by simp) ?_
              refine AllReadyH.cons rfl (fun K hK => ?_) AllReadyH.nil
              go_simp
              refine (hpk _).mono ?_
              rintro e up ⟨rfl, hup⟩
              rw [hup]
              clear hup
              refine hK.out _ _ (by exact hHeld) (fun hHeld => ?_)
              clear hK K
              refine wpAnyH_take (i := 13) (v := ?t6_13) rfl (by kernel_rfl) (by kernel_rfl) (by kernel_rfl) (fun _ _ _ h => h) (Or.inl ⟨by rfl, ?hyt6_13⟩) (by assumption) ?restt6_13
              case hyt6_13 => intro w hSw; (try dsimp only at hSw); go_simp; (try with_reducible rfl)
              simp only [Act.put]
              refine wpAnyH_ready (rs := [14]) (by kernel_rfl) (by simp) ?_
              refine AllReadyH.cons rfl (fun K hK => ?_) AllReadyH.nil
              go_simp
              refine hK.out _ _ (by exact hHeld) (fun hHeld => ?_)
              clear hK K
              refine wpAnyH_ready (rs := [15]) (by kernel_rfl) (by simp) ?_
              refine AllReadyH.cons rfl (fun K hK => ?_) AllReadyH.nil
              go_simp
              refine HI.out.mono ?_
              rintro e w1 ⟨rfl, hmo⟩
              refine hK.out _ _ (HS.out _ hmo.1) (fun hHeld => ?_)
              clear hK K
              refine wpAnyH_ready (rs := [16]) (by kernel_rfl) (by simp) ?_
              refine AllReadyH.cons rfl (fun K hK => ?_) AllReadyH.nil
              go_simp
              refine hK.out _ _ hHeld (fun hHeld => ?_)
              clear hK K
              refine wpAnyH_done (by kernel_rfl) ?_ _
              go_wp2
              go_ret
              exact ⟨rfl, HW.out _ _ _ (hmo.after HDR.out)⟩
            · go_simp
              refine (hpk _).mono ?_
              rintro e up ⟨rfl, hup⟩
              rw [hup]
              clear hup
              refine hK.out _ _ (by exact hHeld) (fun hHeld => ?_)
              clear hK K
              refine wpAnyH_ready (rs := [4]) (by kernel_rfl) (by simp) ?_
              refine AllReadyH.cons rfl (fun K hK => ?_) AllReadyH.nil
              go_simp
              refine hK.out _ _ (by exact hHeld) (fun hHeld => ?_)
              clear hK K
              refine wpAnyH_take (i := 13) (v := ?t8_13) rfl (by kernel_rfl) (by kernel_rfl) (by kernel_rfl) (fun _ _ _ h => h) (Or.inl ⟨by rfl, ?hyt8_13⟩) (by assumption) ?restt8_13
              case hyt8_13 => intro w hSw; (try dsimp only at hSw); go_simp; (try with_reducible rfl)
              simp only [Act.put]
              refine wpAnyH_ready (rs := [14]) (by kernel_rfl) (by simp) ?_
              refine AllReadyH.cons rfl (fun K hK => ?_) AllReadyH.nil
              go_simp
              refine hK.out _ _ (by exact hHeld) (fun hHeld => ?_)
              clear hK K
              refine wpAnyH_ready (rs := [15]) (by kernel_rfl) (by simp) ?_
              refine AllReadyH.cons rfl (fun K hK => ?_) AllReadyH.nil
              go_simp
              refine HI.out.mono ?_
              rintro e w1 ⟨rfl, hmo⟩
              refine hK.out _ _ (HS.out _ hmo.1) (fun hHeld => ?_)
              clear hK K
              refine wpAnyH_ready (rs := [16]) (by kernel_rfl) (by simp) ?_
              refine AllReadyH.cons rfl (fun K hK => ?_) AllReadyH.nil
              go_simp
              refine hK.out _ _ hHeld (fun hHeld => ?_)
              clear hK K
              refine wpAnyH_done (by kernel_rfl) ?_ _
              go_wp2
              go_ret
              exact ⟨rfl, HW.out _ _ _ (hmo.after HDR.out)⟩
      · have b2 : (ok == 2) = false := by simpa using k2
        have e : stRes a cs ⟨ok, oa, os⟩ = cs := by unfold stRes; rw [if_neg k1, if_neg k2, if_neg k3]
        have em : stMv a cs ⟨ok, oa, os⟩ = 0 := by unfold stMv; rw [if_neg k1, if_neg k2, if_neg k3]
        rw [e, em]
        have HM : Hid (Moved At dk a b p cs 0 G w ((w.setCell ⟨dk, 8, none⟩ (.int .i64 0)).alloc (.cells #[.int .i64 ok, .int .i64 oa, .string os] 29))) := HW.out _ _ _ h1.moved
        clear h h1 e em k1 k2 k3
        go_enter Try.func8, Try.ntmps8
        go_wp2_with fail
        go_ret
        exact ⟨rfl, HM.out⟩
theorem dStep_any (hC : Keeps M At 28 21 23 60 62 20 58 11) (o : StV) (ho : o.ok) (hm : cs.length ≤ M) (hM : M ≤ 9000000000000000) (h : Desk At w dk a b p cs mv G) :
    Calls Try.prog 8 #[.pointer (some ⟨dk, 0, none⟩), stV o] w fun e w' => e = .returned (.bool true) ∧ ∃ mv', Moved At dk a b p (stRes a cs o) mv' G w w' :=
  (dStep_told hC o ho hm hM h).mono fun _ _ ⟨he, hmo⟩ => ⟨he, _, hmo⟩
end

end Go.Proofs.Ythkndfkkgncjfab
