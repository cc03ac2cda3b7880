/- SlowM, SlowA, StS, SlowH. -/
import Derived.Test.YthkndfkkgncjfabFolGJA
import Derived.Test.YthkndfkkgncjfabDeskDJA
import Derived.Test.YthkndfkkgncjfabKeepAJA
import Derived.Test.YthkndfkkgncjfabRefSJB
namespace Go.Proofs.Ythkndfkkgncjfab
open Go.RowKit
set_option maxRecDepth 100000

theorem movTo_at (L : List Do.Chg) (hr : L.Pairwise fun c d => c.id < d.id) (id mv : Int) (k : Nat) (c : Do.Chg) (hk : L[k]? = some c) (hid : (c.id : Int) = id) : ∀ n, k < n → Do.movTo L id mv n = (c.doc.size : Int) + 1 := by
  intro n
  induction n with
  | zero => intro h; omega
  | succ m ih =>
    intro hm
    cases hd : L[m]? with
    | none =>
      have : k ≠ m := fun e => by rw [e, hd] at hk; cases hk
      rw [Do.movTo, hd]
      exact ih (by omega)
    | some d =>
      by_cases e : k = m
      · subst e
        rw [hk] at hd
        cases hd
        exact Do.movTo_hit L id mv k c hk hid
      · have := Do.rise_get L hr k m c d hk hd (by omega)
        rw [Do.movTo_miss L id mv m d hd (by omega)]
        exact ih (by omega)
theorem movTo_none (L : List Do.Chg) (id mv : Int) (h : Do.at? L id = none) : ∀ n, Do.movTo L id mv n = mv := by
  intro n
  induction n with
  | zero => rfl
  | succ m ih =>
    cases hd : L[m]? with
    | none => rw [Do.movTo, hd]; exact ih
    | some d =>
      have hne : ¬ (d.id : Int) = id := by
        unfold Do.at? at h
        rw [List.findIdx?_eq_none_iff] at h
        have := h d (List.mem_of_getElem? hd)
        simpa using this
      rw [Do.movTo_miss L id mv m d hd hne]; exact ih

/-- nothing came or went, or one change did -/
def Step1 (cs cs' : List Do.Chg) (mv : Int) : Prop := (cs' = cs ∧ mv = 0) ∨ ∃ c : Do.Chg, cs' = cs ++ [c] ∧ mv = (c.doc.size : Int) + 1

theorem del_move (cs : List Do.Chg) (hr : (Do.there cs).Pairwise fun c d => c.id < d.id) (id : Int) : Step1 cs (delRes cs id).2 (Do.movTo (Do.there cs) id 0 (Do.there cs).length) := by
  unfold delRes
  cases hat : Do.at? (Do.there cs) id with
  | none => exact .inl ⟨rfl, movTo_none _ _ _ hat _⟩
  | some k =>
    obtain ⟨c, hc, hid⟩ := at_get _ _ _ hat
    simp only [hc]
    refine .inr ⟨_, rfl, movTo_at _ hr id 0 k c hc hid _ ?_⟩
    exact (List.getElem?_eq_some_iff.1 hc).1
theorem ins_move (cs : List Do.Chg) (a : Int) (s : ByteArray) : Step1 cs (insRes cs a s).2.2 (insMv cs a s 0) := by
  unfold insRes insMv
  split
  · exact .inl ⟨rfl, rfl⟩
  · split
    · exact .inl ⟨rfl, rfl⟩
    · exact .inr ⟨_, rfl, rfl⟩
theorem st_move (a : Int) (cs : List Do.Chg) (hr : (Do.there cs).Pairwise fun c d => c.id < d.id) (o : StV) : Step1 cs (stRes a cs o) (stMv a cs o) := by
  unfold stRes stMv
  split
  · exact ins_move cs a o.s
  · split
    · split
      · exact .inl ⟨rfl, rfl⟩
      · exact del_move cs hr _
    · split
      · exact del_move cs hr _
      · exact .inl ⟨rfl, rfl⟩

namespace Pa
/-- what Slow looks at -/
theorem change_hand (b : Nat) (p : Pt) (c : Do.Chg) :
    (0 < p.left ∧ (change b p c).hand = p.hand + 1 ∧ (change b p c).since = 0) ∨ (0 < p.left ∧ (change b p c).hand = p.hand ∧ (change b p c).since = p.since + (c.doc.size + 1) ∧ 0 < (change b p c).left) ∨ (p.left = 0 ∧ (change b p c).hand = p.hand ∧ ((change b p c).since = 0 ∨ (change b p c).since = p.since)) := by
  have k1 : (came p c).left = p.left := by unfold came; split <;> rfl
  have k2 : (came p c).hand = p.hand := by unfold came; split <;> rfl
  have k3 : (came p c).since = p.since := by unfold came; split <;> rfl
  unfold change
  generalize came p c = q at *
  by_cases h0 : 0 < q.left
  · by_cases h1 : q.left ≤ q.speed * (c.doc.size + 1)
    · left
      have e : worked q (c.doc.size + 1) = handOver q := by unfold worked; rw [if_pos h0, if_pos h1]
      rw [e]
      refine ⟨by omega, ?_⟩
      unfold begun
      split
      · exact ⟨by show q.hand + 1 = _; omega, rfl⟩
      · exact ⟨by show q.hand + 1 = _; omega, rfl⟩
    · right; left
      have e : worked q (c.doc.size + 1) = { q with left := q.left - q.speed * (c.doc.size + 1), since := q.since + (c.doc.size + 1) } := by unfold worked; rw [if_pos h0, if_neg h1]
      rw [e]
      have e2 : begun b { q with left := q.left - q.speed * (c.doc.size + 1), since := q.since + (c.doc.size + 1) } = { q with left := q.left - q.speed * (c.doc.size + 1), since := q.since + (c.doc.size + 1) } := by
        unfold begun
        rw [if_neg]
        rintro ⟨h2, _⟩
        have h2' : q.left - q.speed * (c.doc.size + 1) = 0 := h2
        omega
      rw [e2]
      refine ⟨by omega, k2, ?_, ?_⟩
      · show q.since + (c.doc.size + 1) = _; omega
      · show 0 < q.left - q.speed * (c.doc.size + 1); omega
  · right; right
    have e : worked q (c.doc.size + 1) = q := by unfold worked; rw [if_neg h0]
    rw [e]
    refine ⟨by omega, ?_⟩
    unfold begun
    split
    · exact ⟨k2, .inl rfl⟩
    · exact ⟨k2, .inr k3⟩
end Pa

end Go.Proofs.Ythkndfkkgncjfab

namespace Go.Proofs.Ythkndfkkgncjfab
open Go.RowKit
set_option maxRecDepth 100000

def onI (n : Nat) : Int := if 0 < n then 1 else 0
/-- the nine numbers -/
def told9 (L : List Do.Chg) (p : Pa.Pt) : Value := .agg #[.int .i64 (L.length : Int), .int .i64 (Do.size L : Nat), .int .i64 (Pa.wt p.main : Nat), .int .i64 (Pa.wt p.frozen : Nat), .int .i64 (Pa.wt p.live : Nat), .int .i64 (Pa.wt (Pa.dead p.main) : Nat), .int .i64 (p.left : Int), .int .i64 (onI p.left), .int .i64 (p.hand : Int)]

/-- an index that tells its parts -/
structure Tells (M : Nat) (At : World → Nat → Int → Int → Int → List Do.Chg → (Nat → Prop) → Prop) (st : Nat) : Prop where
  stats : ∀ {w x a b p cs F}, cs.length ≤ M → At w x a b p cs F → Calls Try.prog st #[.pointer (some ⟨x, 0, none⟩)] w fun e w' => e = .returned (told9 (Do.there cs) (Pa.parts b.toNat cs)) ∧ Below w.heap.size w w'
  inv : ∀ {w x a b p cs F}, At w x a b p cs F → Pa.Inv b.toNat cs (insTo cs cs.length) (Pa.parts b.toNat cs)
  hand : ∀ {w x a b p cs F}, At w x a b p cs F → (Pa.parts b.toNat cs).hand ≤ cs.length

theorem DeskAt.c2 {w : World} {dk x : Nat} {a b p : Int} {vi vd : Value} {n z mv : Int} (h : DeskAt w dk x a b p vi vd n z mv) : w.cell? ⟨dk, 2, none⟩ = some (.int .i64 b) := by rw [cell_of_row w dk 2 _ 38 (0, 0) h]; rfl

/-- what holds of the numbers at any time -/
structure Nums (bf : Nat) (L : List Do.Chg) (p : Pa.Pt) : Prop where
  live : Pa.wt p.live < bf
  sum : Do.size L + L.length + Pa.wt (Pa.dead p.main) ≤ Pa.wt p.main + Pa.wt p.frozen + Pa.wt p.live
  few : Pa.wt p.main + Pa.wt p.frozen + Pa.wt p.live ≤ 5300
  dead : Pa.wt (Pa.dead p.main) ≤ Pa.wt p.main
  off : p.left = 0 → Pa.wt p.frozen = 0 ∧ 2 * Pa.wt (Pa.dead p.main) ≤ Pa.wt p.main ∧ p.since = 0
  on : 0 < p.left → p.since < Pa.half bf
  lf : p.left ≤ 100000
  sm : Do.size L + L.length ≤ 3000

theorem bitsN_le (n : Nat) (h : n ≤ 2460) : Pa.bits n ≤ 12 := by
  unfold Pa.bits
  split
  · omega
  · rename_i h0
    have : Nat.log2 n < 12 := (Nat.log2_lt h0).2 (by omega)
    omega
theorem size_len_wt (l : List Pa.Pg) : Do.size (l.map Pa.chg) + l.length = Pa.wt l := by
  have h : ∀ k, k ≤ l.length → Do.size ((l.take k).map Pa.chg) + k = Pa.wt (l.take k) := by
    intro k hk
    induction k with
    | zero => rfl
    | succ k ih =>
      have hk' : k < l.length := hk
      rw [List.take_succ_eq_append_getElem hk', List.map_append, Pa.wt_append, ← ih (by omega)]
      show Do.size ((l.take k).map Pa.chg ++ [Pa.chg l[k]]) + (k + 1) = _ + (l[k].w + 0)
      rw [Do.sizes_append]
      show _ + l[k].doc.size + (k + 1) = _ + (l[k].doc.size + 1 + 0)
      omega
  have := h l.length (Nat.le_refl _)
  rwa [List.take_of_length_le (Nat.le_refl _)] at this

theorem nums_of {bf : Nat} {cs : List Do.Chg} {N : Nat} {p : Pa.Pt} (h : Pa.Inv bf cs N p) (hb : bf ≤ 80) (hb1 : 1 ≤ bf) (hl : (Do.there cs).length ≤ 60) : Nums bf (Do.there cs) p := by
  have hsum := size_len_wt (Pa.alive p.docs)
  rw [h.there] at hsum
  have hln : (Pa.alive p.docs).length = (Do.there cs).length := by rw [← h.there, List.length_map]
  rw [hln] at hsum
  have ha := h.alive_wt hl
  have hall := h.all_wt hb hl
  have e1 : Pa.wt p.docs = Pa.wt p.main + Pa.wt p.frozen + Pa.wt p.live := by unfold Pa.Pt.docs; rw [Pa.wt_append, Pa.wt_append]
  have e2 : Pa.wt (Pa.alive p.docs) = Pa.wt (Pa.alive p.main) + Pa.wt (Pa.alive p.frozen) + Pa.wt (Pa.alive p.live) := by unfold Pa.Pt.docs; rw [Pa.alive_append, Pa.alive_append, Pa.wt_append, Pa.wt_append]
  have s1 := Pa.wt_split p.main
  have s2 := Pa.wt_split p.frozen
  have s3 := Pa.wt_split p.live
  have hon : 0 < p.left → p.since < Pa.half bf := fun h0 => h.fast h0
  have hhf : Pa.half bf ≤ bf := by unfold Pa.half; omega
  refine ⟨?_, by omega, by omega, by omega, ?_, hon, ?_, by omega⟩
  · by_cases h0 : p.left = 0
    · have := (h.off h0).2.2.1
      unfold Pa.due at this
      omega
    · have h1 := hon (by omega)
      have h2 := (h.on (by omega)).2.2.1
      omega
  · intro h0
    obtain ⟨o1, _, o3, o4⟩ := h.off h0
    unfold Pa.due at o3
    refine ⟨by rw [o1]; rfl, by omega, o4⟩
  · by_cases h0 : p.left = 0
    · omega
    · obtain ⟨o1, _, _, _, o5⟩ := h.on (by omega)
      have hu : Pa.units (Pa.wt (Pa.next p.main) + Pa.wt p.frozen) ≤ 2461 * 15 := by
        unfold Pa.units
        exact Nat.mul_le_mul (by omega) (by have := bitsN_le _ o5; omega)
      omega

/-- what Slow asks of two times that follow each other -/
theorem slow_step {bf : Nat} {cs cs' : List Do.Chg} {N N' : Nat} {mv : Int} (h : Pa.Inv bf cs N (Pa.parts bf cs)) (h' : Pa.Inv bf cs' N' (Pa.parts bf cs')) (hs : Step1 cs cs' mv) :
    ((Pa.parts bf cs).left = 0 ∧ (Pa.parts bf cs').hand = (Pa.parts bf cs).hand ∧ (Pa.parts bf cs').since = (Pa.parts bf cs).since) ∨
    (0 < (Pa.parts bf cs).left ∧ (Pa.parts bf cs').hand = (Pa.parts bf cs).hand ∧ 0 < (Pa.parts bf cs').left ∧ ((Pa.parts bf cs').since : Int) = (Pa.parts bf cs).since + mv) ∨
    (0 < (Pa.parts bf cs).left ∧ (Pa.parts bf cs').hand = (Pa.parts bf cs).hand + 1 ∧ (Pa.parts bf cs').since = 0) := by
  rcases hs with ⟨rfl, rfl⟩ | ⟨c, rfl, rfl⟩
  · by_cases h0 : (Pa.parts bf cs').left = 0
    · exact .inl ⟨h0, rfl, rfl⟩
    · exact .inr (.inl ⟨by omega, rfl, by omega, by omega⟩)
  · rw [Pa.parts_more] at h' ⊢
    rcases Pa.change_hand bf (Pa.parts bf cs) c with ⟨q1, q2, q3⟩ | ⟨q1, q2, q3, q4⟩ | ⟨q1, q2, q3⟩
    · exact .inr (.inr ⟨q1, q2, q3⟩)
    · exact .inr (.inl ⟨q1, q2, q4, by rw [q3]; omega⟩)
    · refine .inl ⟨q1, q2, ?_⟩
      have := (h.off q1).2.2.2
      omega

end Go.Proofs.Ythkndfkkgncjfab

namespace Go.Proofs.Ythkndfkkgncjfab
open Go.RowKit
set_option maxRecDepth 100000

/-- Stats' cells -/
def StB (w : World) (s : Nat) (n0 n1 n2 n3 n4 n5 n6 n7 n8 : Int) : Prop := w.heap[s]? = some (.cells #[.int .i64 n0, .int .i64 n1, .int .i64 n2, .int .i64 n3, .int .i64 n4, .int .i64 n5, .int .i64 n6, .int .i64 n7, .int .i64 n8] 50 (0, 0))
section
variable {w w' : World} {s : Nat} {n0 n1 n2 n3 n4 n5 n6 n7 n8 : Int}
theorem StB.lt (h : StB w s n0 n1 n2 n3 n4 n5 n6 n7 n8) : s < w.heap.size := lt_of_block h
theorem StB.free (h : StB w s n0 n1 n2 n3 n4 n5 n6 n7 n8) (j : Nat) : w.frozen? ⟨s, j, none⟩ = false := frozen_of_row w s j _ 50 h
theorem StB.other (h : StB w s n0 n1 n2 n3 n4 n5 n6 n7 n8) (p : Addr) (u : Value) (hne : s ≠ p.block) : StB (w.setCell p u) s n0 n1 n2 n3 n4 n5 n6 n7 n8 := (Below.heap_setCell w p u s hne).trans h
theorem StB.below (h : StB w s n0 n1 n2 n3 n4 n5 n6 n7 n8) (hb : Below w.heap.size w w') : StB w' s n0 n1 n2 n3 n4 n5 n6 n7 n8 := (hb.block s h.lt).trans h
theorem StB.c0 (h : StB w s n0 n1 n2 n3 n4 n5 n6 n7 n8) : w.cell? ⟨s, 0, none⟩ = some (.int .i64 n0) := by rw [cell_of_row w s 0 _ 50 (0, 0) h]; rfl
theorem StB.s0 (h : StB w s n0 n1 n2 n3 n4 n5 n6 n7 n8) (u : Int) : StB (w.setCell ⟨s, 0, none⟩ (.int .i64 u)) s u n1 n2 n3 n4 n5 n6 n7 n8 := (heap_setCell_same w s 0 _ 50 _ h).trans rfl
theorem StB.c1 (h : StB w s n0 n1 n2 n3 n4 n5 n6 n7 n8) : w.cell? ⟨s, 1, none⟩ = some (.int .i64 n1) := by rw [cell_of_row w s 1 _ 50 (0, 0) h]; rfl
theorem StB.s1 (h : StB w s n0 n1 n2 n3 n4 n5 n6 n7 n8) (u : Int) : StB (w.setCell ⟨s, 1, none⟩ (.int .i64 u)) s n0 u n2 n3 n4 n5 n6 n7 n8 := (heap_setCell_same w s 1 _ 50 _ h).trans rfl
theorem StB.c2 (h : StB w s n0 n1 n2 n3 n4 n5 n6 n7 n8) : w.cell? ⟨s, 2, none⟩ = some (.int .i64 n2) := by rw [cell_of_row w s 2 _ 50 (0, 0) h]; rfl
theorem StB.s2 (h : StB w s n0 n1 n2 n3 n4 n5 n6 n7 n8) (u : Int) : StB (w.setCell ⟨s, 2, none⟩ (.int .i64 u)) s n0 n1 u n3 n4 n5 n6 n7 n8 := (heap_setCell_same w s 2 _ 50 _ h).trans rfl
theorem StB.c3 (h : StB w s n0 n1 n2 n3 n4 n5 n6 n7 n8) : w.cell? ⟨s, 3, none⟩ = some (.int .i64 n3) := by rw [cell_of_row w s 3 _ 50 (0, 0) h]; rfl
theorem StB.s3 (h : StB w s n0 n1 n2 n3 n4 n5 n6 n7 n8) (u : Int) : StB (w.setCell ⟨s, 3, none⟩ (.int .i64 u)) s n0 n1 n2 u n4 n5 n6 n7 n8 := (heap_setCell_same w s 3 _ 50 _ h).trans rfl
theorem StB.c4 (h : StB w s n0 n1 n2 n3 n4 n5 n6 n7 n8) : w.cell? ⟨s, 4, none⟩ = some (.int .i64 n4) := by rw [cell_of_row w s 4 _ 50 (0, 0) h]; rfl
theorem StB.s4 (h : StB w s n0 n1 n2 n3 n4 n5 n6 n7 n8) (u : Int) : StB (w.setCell ⟨s, 4, none⟩ (.int .i64 u)) s n0 n1 n2 n3 u n5 n6 n7 n8 := (heap_setCell_same w s 4 _ 50 _ h).trans rfl
theorem StB.c5 (h : StB w s n0 n1 n2 n3 n4 n5 n6 n7 n8) : w.cell? ⟨s, 5, none⟩ = some (.int .i64 n5) := by rw [cell_of_row w s 5 _ 50 (0, 0) h]; rfl
theorem StB.s5 (h : StB w s n0 n1 n2 n3 n4 n5 n6 n7 n8) (u : Int) : StB (w.setCell ⟨s, 5, none⟩ (.int .i64 u)) s n0 n1 n2 n3 n4 u n6 n7 n8 := (heap_setCell_same w s 5 _ 50 _ h).trans rfl
theorem StB.c6 (h : StB w s n0 n1 n2 n3 n4 n5 n6 n7 n8) : w.cell? ⟨s, 6, none⟩ = some (.int .i64 n6) := by rw [cell_of_row w s 6 _ 50 (0, 0) h]; rfl
theorem StB.s6 (h : StB w s n0 n1 n2 n3 n4 n5 n6 n7 n8) (u : Int) : StB (w.setCell ⟨s, 6, none⟩ (.int .i64 u)) s n0 n1 n2 n3 n4 n5 u n7 n8 := (heap_setCell_same w s 6 _ 50 _ h).trans rfl
theorem StB.c7 (h : StB w s n0 n1 n2 n3 n4 n5 n6 n7 n8) : w.cell? ⟨s, 7, none⟩ = some (.int .i64 n7) := by rw [cell_of_row w s 7 _ 50 (0, 0) h]; rfl
theorem StB.s7 (h : StB w s n0 n1 n2 n3 n4 n5 n6 n7 n8) (u : Int) : StB (w.setCell ⟨s, 7, none⟩ (.int .i64 u)) s n0 n1 n2 n3 n4 n5 n6 u n8 := (heap_setCell_same w s 7 _ 50 _ h).trans rfl
theorem StB.c8 (h : StB w s n0 n1 n2 n3 n4 n5 n6 n7 n8) : w.cell? ⟨s, 8, none⟩ = some (.int .i64 n8) := by rw [cell_of_row w s 8 _ 50 (0, 0) h]; rfl
theorem StB.s8 (h : StB w s n0 n1 n2 n3 n4 n5 n6 n7 n8) (u : Int) : StB (w.setCell ⟨s, 8, none⟩ (.int .i64 u)) s n0 n1 n2 n3 n4 n5 n6 n7 u := (heap_setCell_same w s 8 _ 50 _ h).trans rfl
end

end Go.Proofs.Ythkndfkkgncjfab

namespace Go.Proofs.Ythkndfkkgncjfab
open Go.RowKit
set_option maxRecDepth 100000

section
variable {M : Nat} {At : World → Nat → Int → Int → Int → List Do.Chg → (Nat → Prop) → Prop}

/-- behind a step of one desk -/
theorem one_step' {B dk : Nat} {w w1 : World} {a b p : Int} {cs' : List Do.Chg} {mv' : Int} {G : Nat → Prop} (hB : B ≤ w.heap.size) (hG : ∀ k, G k → B ≤ k) (hm : Moved At dk a b p cs' mv' G w w1) : (∃ G', Desk At w1 dk a b p cs' mv' G' ∧ ∀ k, G' k → B ≤ k) ∧ Below B w w1 := by
  obtain ⟨ho, G', hd, hk⟩ := hm
  exact ⟨⟨G', hd, fun k h => (hk k h).elim (hG k) (fun h => by omega)⟩, ho.os, ho.tape, ho.output, ho.size, fun k hk' => ho.block k (by omega) (fun h => by have := hG k h; omega)⟩

/-- a desk, told -/
theorem Desk.tells (hC : Keeps M At 28 21 23 60 62 20 58 11) (hT : Tells M At 16) {w : World} {dk bf : Nat} {a p mv : Int} {cs : List Do.Chg} {G : Nat → Prop} (h : Desk At w dk a (bf : Int) p cs mv G) (hm : cs.length ≤ M) :
    ∃ x ai ci, (∀ W, Below w.heap.size w W → W.cell? ⟨dk, 0, none⟩ = some (.pointer (some ⟨x, 0, none⟩)) ∧ W.cell? ⟨dk, 2, none⟩ = some (.int .i64 (bf : Int)) ∧ W.cell? ⟨dk, 4, none⟩ = some (.slice ai (Do.there cs).length ci) ∧ W.cell? ⟨dk, 7, none⟩ = some (.int .i64 (Do.size (Do.there cs) : Nat)) ∧ W.cell? ⟨dk, 8, none⟩ = some (.int .i64 mv)) ∧
      Calls Try.prog 16 #[.pointer (some ⟨x, 0, none⟩)] w (fun e w' => e = .returned (told9 (Do.there cs) (Pa.parts bf cs)) ∧ Below w.heap.size w w') ∧ Pa.Inv bf cs (insTo cs cs.length) (Pa.parts bf cs) ∧ (Pa.parts bf cs).hand ≤ cs.length ∧ Nums bf (Do.there cs) (Pa.parts bf cs) ∧ 1 ≤ bf ∧ bf ≤ 80 ∧ Fair cs := by
  obtain ⟨x, vi, vd, F, h⟩ := h
  obtain ⟨ai, ci, rfl, _⟩ := row_any h.ri
  have hI := hT.inv h.idx
  have hH := hT.hand h.idx
  have hS := hT.stats hm h.idx
  rw [Int.toNat_natCast] at hI hH hS
  have hb1 : 1 ≤ bf := by have := h.conf.2.2.1; omega
  have hb2 : bf ≤ 80 := by have := h.conf.2.2.2.1; omega
  exact ⟨x, ai, ci, fun W hW => ⟨(h.quiet hC hW).blk.c0, (h.quiet hC hW).blk.c2, (h.quiet hC hW).blk.c4, (h.quiet hC hW).blk.c7, (h.quiet hC hW).blk.c8⟩, hS, hI, hH, nums_of hI hb2 hb1 h.fair.few, hb1, hb2, h.fair⟩

/-- what was told last lies there -/
def StT (w : World) (g : Nat) (L : List Do.Chg) (p : Pa.Pt) : Prop := StB w g (L.length : Int) (Do.size L : Nat) (Pa.wt p.main : Nat) (Pa.wt p.frozen : Nat) (Pa.wt p.live : Nat) (Pa.wt (Pa.dead p.main) : Nat) (p.left : Int) (onI p.left) (p.hand : Int)
theorem slow_end (hC : Keeps M At 28 21 23 60 62 20 58 11) {B dk gw : Nat} {w wc : World} {a b p : Int} {cs : List Do.Chg} (cells : Array Value) (hd : ∃ mv G, Desk At wc dk a b p cs mv G ∧ (∀ k, G k → B ≤ k) ∧ ¬ G gw) (hb : Below B w wc) (hg : B ≤ gw) :
    (∃ mv G, Desk At (wc.setRow gw cells) dk a b p cs mv G ∧ (∀ k, G k → B ≤ k) ∧ ¬ G gw) ∧ Below B w (wc.setRow gw cells) := by
  obtain ⟨mv, G, h1, h2, h3⟩ := hd
  refine ⟨⟨mv, G, h1.frame hC (by simp) (fun k hk => setRow_other wc gw k cells (fun e => h3 (by rw [← e]; exact hk))), h2, h3⟩, hb.os, hb.tape, hb.output, by simpa using hb.size, fun k hk => ?_⟩
  rw [setRow_other wc gw k cells (by omega)]
  exact hb.block k hk
theorem Try.sizeT50 : (Try.prog.info? 50).map (·.size) = some 9 := by kernel_rfl
theorem onI_on {n : Nat} (h : 0 < n) : onI n = 1 := if_pos h
theorem onI_off {n : Nat} (h : n = 0) : onI n = 0 := if_neg (by omega)

end

end Go.Proofs.Ythkndfkkgncjfab
