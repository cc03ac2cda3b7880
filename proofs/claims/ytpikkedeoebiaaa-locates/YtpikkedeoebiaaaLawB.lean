/- Walks of the law: pick, num, changed. -/
import Derived.Test.YtpikkedeoebiaaaLawA
import Derived.Test.YtpikkedeoebiaaaWalkD
namespace Go.Proofs.Ytpikkedeoebiaaa
open Go.RowKit
set_option maxRecDepth 100000

/-- a step as a value -/
def opV (o : OpV) : Value := .agg #[.int .i64 o.k, .int .i64 o.on, .int .i64 o.a, .int .i64 o.b, .int .i64 o.c, .string o.s, .int .i64 o.f0, .int .i64 o.f1, .int .i64 o.f2]
/-- a book as a value -/
def bkV (b : Bk) : Value := .agg #[.pointer (some ⟨b.x, 0, none⟩), .pointer (some ⟨b.r, 0, none⟩)]

section
variable {At : World → Nat → Int → Int → Int → List Do.Chg → (Nat → Prop) → Prop} {DP : World → Nat → (Nat → Prop) → Prop}
variable {B G D : Nat} {v : Value} {bs : List Bk}

set_option maxHeartbeats 1000000 in
theorem changed_ins (hC : Serves At 67 73 74 28 34 36 56 35) (hD : Drawn DP) (own : Nat → Nat) (i : Nat) (b : Bk) (o : OpV) (w : World) (h : Inv At DP w B G D v bs own) (hi : bs[i]? = some b) (hcx : b.cx = b.cr) (hl : b.cr.length ≤ 2000000000000) (hk : o.k = 2) (hs : o.s.size ≤ 9223372036854775807) (hB : B ≤ w.heap.size) :
    Calls Try.prog 71 #[bkV b, opV o] w fun e w' => e = .returned (.bool true) ∧ w.heap.size ≤ w'.heap.size ∧ Only (fun k => own k ≠ 0) w w' ∧ ∃ own', Inv At DP w' B G D v (bs.set i { b with cx := (insRes b.cr b.a o.s).2.2, cr := (insRes b.cr b.a o.s).2.2 }) own' := by
  obtain ⟨ok, oon, oa, ob, oc, os, f0, f1, f2⟩ := o
  dsimp only at hk hs ⊢
  subst hk
  unfold bkV opV
  dsimp only
  go_enter Try.func71, Try.ntmps71
  have y0 := World.news_of_block (Below.heap_alloc _ (.cells #[.int .i64 2, .int .i64 oon, .int .i64 oa, .int .i64 ob, .int .i64 oc, .string os, .int .i64 f0, .int .i64 f1, .int .i64 f2] 98) w.heap.size (by simp) |>.trans (heap_alloc_new w (.cells #[.pointer (some ⟨b.x, 0, none⟩), .pointer (some ⟨b.r, 0, none⟩)] 121)))
  have y1 := World.news_of_block (heap_alloc_new (w.alloc (.cells #[.pointer (some ⟨b.x, 0, none⟩), .pointer (some ⟨b.r, 0, none⟩)] 121)) (.cells #[.int .i64 2, .int .i64 oon, .int .i64 oa, .int .i64 ob, .int .i64 oc, .string os, .int .i64 f0, .int .i64 f1, .int .i64 f2] 98))
  have z1 := y0 1 _ rfl
  have z5 := y1 5 _ rfl
  clear y0 y1
  have hb0 : Below w.heap.size w ((w.alloc (.cells #[.pointer (some ⟨b.x, 0, none⟩), .pointer (some ⟨b.r, 0, none⟩)] 121)).alloc (.cells #[.int .i64 2, .int .i64 oon, .int .i64 oa, .int .i64 ob, .int .i64 oc, .string os, .int .i64 f0, .int .i64 f1, .int .i64 f2] 98)) := ((Below.refl _ _).alloc (Nat.le_refl _) _).alloc (by simp) _
  have hsz : ((w.alloc (.cells #[.pointer (some ⟨b.x, 0, none⟩), .pointer (some ⟨b.r, 0, none⟩)] 121)).alloc (.cells #[.int .i64 2, .int .i64 oon, .int .i64 oa, .int .i64 ob, .int .i64 oc, .string os, .int .i64 f0, .int .i64 f1, .int .i64 f2] 98)).heap.size = w.heap.size + 2 := by simp
  go_wp2_with fail
  have hI1 := h.quiet hC hD hb0
  generalize (w.alloc (.cells #[.pointer (some ⟨b.x, 0, none⟩), .pointer (some ⟨b.r, 0, none⟩)] 121)).alloc (.cells #[.int .i64 2, .int .i64 oon, .int .i64 oa, .int .i64 ob, .int .i64 oc, .string os, .int .i64 f0, .int .i64 f1, .int .i64 f2] 98) = w1 at *
  have h0 : ∀ k, w.heap.size ≤ k → own k = 0 := fun k hk => by
    cases hc : own k with
    | zero => rfl
    | succ n => have := (h.mine k (by rw [hc]; omega)).2; omega
  have hm0 := h.mine
  clear h
  refine (hC.insert os (by rw [hcx]; exact hl) hs (hI1.code i b hi)).mono ?_
  rintro e w2 ⟨rfl, ho2, hn2⟩
  have hi1 : i < bs.length := by
    rcases Nat.lt_or_ge i bs.length with h | h
    · exact h
    · rw [List.getElem?_eq_none h] at hi; cases hi
  have s2 := ho2.size
  have zz1 : w2.cell? ⟨w.heap.size, 1, none⟩ = some (.pointer (some ⟨b.r, 0, none⟩)) := by
    rw [ho2.cell (by omega) (by rw [h0 _ (Nat.le_refl _)]; omega)]; simpa [Addr.add] using z1
  have zz5 : w2.cell? ⟨w.heap.size + 1, 5, none⟩ = some (.string os) := by
    rw [ho2.cell (by omega) (by rw [h0 _ (by omega)]; omega)]; simpa [Addr.add] using z5
  obtain ⟨own2, hI2, hown2⟩ := hI1.codeStep hC hD i b _ hi ho2 (by omega) hn2
  have hi2 : (bs.set i { b with cx := (insRes b.cx b.a os).2.2 })[i]? = some { b with cx := (insRes b.cx b.a os).2.2 } := by rw [List.getElem?_set, if_pos rfl, if_pos hi1]
  have hR := ref_serves.insert os (cs := b.cr) hl hs (hI2.ref i { b with cx := (insRes b.cx b.a os).2.2 } hi2)
  have HR : Hid (Calls Try.prog 78 #[.pointer (some ⟨b.r, 0, none⟩), .string os] w2 fun e w' => e = .returned (.tuple #[.int .i64 (insRes b.cr b.a os).1, .int .i64 (insRes b.cr b.a os).2.1]) ∧ Only (fun k => own2 k = 4 + 2 * i) w2 w' ∧ ∃ N, RIdx w' b.r b.a b.b b.p (insRes b.cr b.a os).2.2 N ∧ ∀ k, N k → own2 k = 4 + 2 * i ∨ w2.heap.size ≤ k) := hR
  clear hR hn2 z1 z5
  rw [hcx] at hI2 hi2
  rw [hcx]
  generalize hr1 : (insRes b.cr b.a os).1 = q1 at *
  generalize hr2 : (insRes b.cr b.a os).2.1 = q2 at *
  clear hr1 hr2
  go_wp2_with fail
  refine HR.out.mono ?_
  rintro e w3 ⟨rfl, ho3, hn3⟩
  have s3 := ho3.size
  obtain ⟨own3, hI3, hown3⟩ := hI2.refStep hC hD i _ _ hi2 ho3 (by omega) hn3
  rw [List.set_set] at hI3
  have hall : Only (fun k => own k ≠ 0) w w3 := by
    refine ⟨ho3.os.trans (ho2.os.trans hb0.os), ho3.tape.trans (ho2.tape.trans hb0.tape), ho3.output.trans (ho2.output.trans hb0.output), by omega, fun k hk hf => ?_⟩
    have hk0 : own k = 0 := by simpa using hf
    rw [ho3.block k (by omega) (by rw [hown2 k (by omega), hk0]; omega), ho2.block k (by omega) (by rw [hk0]; omega), hb0.block k hk]
  clear HR hn3 zz1 zz5 hI1 hI2 ho2 ho3
  go_wp2_with fail
  refine (num_any _ _).mono ?_
  rintro e w4 ⟨rfl, hw4⟩; rw [hw4]; clear hw4
  go_wp2_with fail
  go_ret
  exact ⟨rfl, by omega, hall, own3, hI3⟩

set_option maxHeartbeats 1000000 in
theorem changed_del (hC : Serves At 67 73 74 28 34 36 56 35) (hD : Drawn DP) (own : Nat → Nat) (i : Nat) (b : Bk) (o : OpV) (w : World) (h : Inv At DP w B G D v bs own) (hi : bs[i]? = some b) (hcx : b.cx = b.cr) (hl : b.cr.length ≤ 2000000000000) (hk : (o.k == 2) = false) (hra : inR o.a) (hB : B ≤ w.heap.size) :
    Calls Try.prog 71 #[bkV b, opV o] w fun e w' => e = .returned (.bool true) ∧ w.heap.size ≤ w'.heap.size ∧ Only (fun k => own k ≠ 0) w w' ∧ ∃ own', Inv At DP w' B G D v (bs.set i { b with cx := (delRes b.cr o.a).2, cr := (delRes b.cr o.a).2 }) own' := by
  obtain ⟨ok, oon, oa, ob, oc, os, f0, f1, f2⟩ := o
  dsimp only at hk ⊢
  unfold bkV opV
  dsimp only
  go_enter Try.func71, Try.ntmps71
  have y0 := World.news_of_block (Below.heap_alloc _ (.cells #[.int .i64 ok, .int .i64 oon, .int .i64 oa, .int .i64 ob, .int .i64 oc, .string os, .int .i64 f0, .int .i64 f1, .int .i64 f2] 98) w.heap.size (by simp) |>.trans (heap_alloc_new w (.cells #[.pointer (some ⟨b.x, 0, none⟩), .pointer (some ⟨b.r, 0, none⟩)] 121)))
  have y1 := World.news_of_block (heap_alloc_new (w.alloc (.cells #[.pointer (some ⟨b.x, 0, none⟩), .pointer (some ⟨b.r, 0, none⟩)] 121)) (.cells #[.int .i64 ok, .int .i64 oon, .int .i64 oa, .int .i64 ob, .int .i64 oc, .string os, .int .i64 f0, .int .i64 f1, .int .i64 f2] 98))
  have z1 := y0 1 _ rfl
  have z5 := y1 2 _ rfl
  clear y0 y1
  have hb0 : Below w.heap.size w ((w.alloc (.cells #[.pointer (some ⟨b.x, 0, none⟩), .pointer (some ⟨b.r, 0, none⟩)] 121)).alloc (.cells #[.int .i64 ok, .int .i64 oon, .int .i64 oa, .int .i64 ob, .int .i64 oc, .string os, .int .i64 f0, .int .i64 f1, .int .i64 f2] 98)) := ((Below.refl _ _).alloc (Nat.le_refl _) _).alloc (by simp) _
  have hsz : ((w.alloc (.cells #[.pointer (some ⟨b.x, 0, none⟩), .pointer (some ⟨b.r, 0, none⟩)] 121)).alloc (.cells #[.int .i64 ok, .int .i64 oon, .int .i64 oa, .int .i64 ob, .int .i64 oc, .string os, .int .i64 f0, .int .i64 f1, .int .i64 f2] 98)).heap.size = w.heap.size + 2 := by simp
  go_wp2_with fail
  have hI1 := h.quiet hC hD hb0
  generalize (w.alloc (.cells #[.pointer (some ⟨b.x, 0, none⟩), .pointer (some ⟨b.r, 0, none⟩)] 121)).alloc (.cells #[.int .i64 ok, .int .i64 oon, .int .i64 oa, .int .i64 ob, .int .i64 oc, .string os, .int .i64 f0, .int .i64 f1, .int .i64 f2] 98) = w1 at *
  have h0 : ∀ k, w.heap.size ≤ k → own k = 0 := fun k hk => by
    cases hc : own k with
    | zero => rfl
    | succ n => have := (h.mine k (by rw [hc]; omega)).2; omega
  have hm0 := h.mine
  clear h
  refine (hC.delete oa (by rw [hcx]; exact hl) hra (hI1.code i b hi)).mono ?_
  rintro e w2 ⟨rfl, ho2, hn2⟩
  have hi1 : i < bs.length := by
    rcases Nat.lt_or_ge i bs.length with h | h
    · exact h
    · rw [List.getElem?_eq_none h] at hi; cases hi
  have s2 := ho2.size
  have zz1 : w2.cell? ⟨w.heap.size, 1, none⟩ = some (.pointer (some ⟨b.r, 0, none⟩)) := by
    rw [ho2.cell (by omega) (by rw [h0 _ (Nat.le_refl _)]; omega)]; simpa [Addr.add] using z1
  have zz5 : w2.cell? ⟨w.heap.size + 1, 2, none⟩ = some (.int .i64 oa) := by
    rw [ho2.cell (by omega) (by rw [h0 _ (by omega)]; omega)]; simpa [Addr.add] using z5
  obtain ⟨own2, hI2, hown2⟩ := hI1.codeStep hC hD i b _ hi ho2 (by omega) hn2
  have hi2 : (bs.set i { b with cx := (delRes b.cx oa).2 })[i]? = some { b with cx := (delRes b.cx oa).2 } := by rw [List.getElem?_set, if_pos rfl, if_pos hi1]
  have hR := ref_serves.delete oa (cs := b.cr) hl hra (hI2.ref i { b with cx := (delRes b.cx oa).2 } hi2)
  have HR : Hid (Calls Try.prog 79 #[.pointer (some ⟨b.r, 0, none⟩), .int .i64 oa] w2 fun e w' => e = .returned (.int .i64 (delRes b.cr oa).1) ∧ Only (fun k => own2 k = 4 + 2 * i) w2 w' ∧ ∃ N, RIdx w' b.r b.a b.b b.p (delRes b.cr oa).2 N ∧ ∀ k, N k → own2 k = 4 + 2 * i ∨ w2.heap.size ≤ k) := hR
  clear hR hn2 z1 z5
  rw [hcx] at hI2 hi2
  rw [hcx]
  generalize hr1 : (delRes b.cr oa).1 = q1 at *
  clear hr1
  go_wp2_with fail
  refine HR.out.mono ?_
  rintro e w3 ⟨rfl, ho3, hn3⟩
  have s3 := ho3.size
  obtain ⟨own3, hI3, hown3⟩ := hI2.refStep hC hD i _ _ hi2 ho3 (by omega) hn3
  rw [List.set_set] at hI3
  have hall : Only (fun k => own k ≠ 0) w w3 := by
    refine ⟨ho3.os.trans (ho2.os.trans hb0.os), ho3.tape.trans (ho2.tape.trans hb0.tape), ho3.output.trans (ho2.output.trans hb0.output), by omega, fun k hk hf => ?_⟩
    have hk0 : own k = 0 := by simpa using hf
    rw [ho3.block k (by omega) (by rw [hown2 k (by omega), hk0]; omega), ho2.block k (by omega) (by rw [hk0]; omega), hb0.block k hk]
  clear HR hn3 zz1 zz5 hI1 hI2 ho2 ho3
  go_wp2_with fail
  refine (num_any _ _).mono ?_
  rintro e w4 ⟨rfl, hw4⟩; rw [hw4]; clear hw4
  go_wp2_with fail
  go_ret
  exact ⟨rfl, by omega, hall, own3, hI3⟩

set_option maxHeartbeats 1000000 in
theorem asked_ext (hC : Serves At 67 73 74 28 34 36 56 35) (hD : Drawn DP) (own : Nat → Nat) (i : Nat) (b : Bk) (o : OpV) (w : World) (h : Inv At DP w B G D v bs own) (hi : bs[i]? = some b) (hcx : b.cx = b.cr) (hl : b.cr.length ≤ 2000000000000) (hk : o.k = 6) (hra : inR o.a) (hrb : inR o.b) (hrc : inR o.c) :
    Calls Try.prog 72 #[.pointer (some ⟨G, 0, none⟩), bkV b, opV o] w fun e w' => e = .returned (.bool true) ∧ Below w.heap.size w w' := by
  obtain ⟨ok, oon, oa, ob, oc, os, f0, f1, f2⟩ := o
  dsimp only at *
  subst hk
  unfold bkV opV
  dsimp only
  go_enter Try.func72, Try.ntmps72
  have y0 := World.news_of_block (Below.heap_alloc _ (.cells #[.int .i64 6, .int .i64 oon, .int .i64 oa, .int .i64 ob, .int .i64 oc, .string os, .int .i64 f0, .int .i64 f1, .int .i64 f2] 98) w.heap.size (by simp) |>.trans (heap_alloc_new w (.cells #[.pointer (some ⟨b.x, 0, none⟩), .pointer (some ⟨b.r, 0, none⟩)] 121)))
  have y1 := World.news_of_block (heap_alloc_new (w.alloc (.cells #[.pointer (some ⟨b.x, 0, none⟩), .pointer (some ⟨b.r, 0, none⟩)] 121)) (.cells #[.int .i64 6, .int .i64 oon, .int .i64 oa, .int .i64 ob, .int .i64 oc, .string os, .int .i64 f0, .int .i64 f1, .int .i64 f2] 98))
  have hb0 : Below w.heap.size w ((w.alloc (.cells #[.pointer (some ⟨b.x, 0, none⟩), .pointer (some ⟨b.r, 0, none⟩)] 121)).alloc (.cells #[.int .i64 6, .int .i64 oon, .int .i64 oa, .int .i64 ob, .int .i64 oc, .string os, .int .i64 f0, .int .i64 f1, .int .i64 f2] 98)) := ((Below.refl _ _).alloc (Nat.le_refl _) _).alloc (by simp) _
  have hsz : ((w.alloc (.cells #[.pointer (some ⟨b.x, 0, none⟩), .pointer (some ⟨b.r, 0, none⟩)] 121)).alloc (.cells #[.int .i64 6, .int .i64 oon, .int .i64 oa, .int .i64 ob, .int .i64 oc, .string os, .int .i64 f0, .int .i64 f1, .int .i64 f2] 98)).heap.size = w.heap.size + 2 := by simp
  have zp := y0 1 _ rfl
  have z2 := y1 2 _ rfl
  have z3 := y1 3 _ rfl
  have z4 := y1 4 _ rfl
  clear y0 y1
  go_wp2_with fail
  have hI1 := h.quiet hC hD hb0
  generalize (w.alloc (.cells #[.pointer (some ⟨b.x, 0, none⟩), .pointer (some ⟨b.r, 0, none⟩)] 121)).alloc (.cells #[.int .i64 6, .int .i64 oon, .int .i64 oa, .int .i64 ob, .int .i64 oc, .string os, .int .i64 f0, .int .i64 f1, .int .i64 f2] 98) = w1 at *
  refine (hC.extract oa ob oc (by rw [hcx]; exact hl) hra hrb hrc (hI1.code i b hi)).mono ?_
  rintro e w2 ⟨rfl, hb2⟩
  have s2 := hb2.size
  have zzp : w2.cell? ⟨w.heap.size, 1, none⟩ = some (.pointer (some ⟨b.r, 0, none⟩)) := by
    rw [hb2.cell (by show w.heap.size < w1.heap.size; omega)]; simpa [Addr.add] using zp
  have zz2 : w2.cell? ⟨w.heap.size + 1, 2, none⟩ = some (.int .i64 oa) := by
    rw [hb2.cell (by show w.heap.size + 1 < w1.heap.size; omega)]; simpa [Addr.add] using z2
  have zz3 : w2.cell? ⟨w.heap.size + 1, 3, none⟩ = some (.int .i64 ob) := by
    rw [hb2.cell (by show w.heap.size + 1 < w1.heap.size; omega)]; simpa [Addr.add] using z3
  have zz4 : w2.cell? ⟨w.heap.size + 1, 4, none⟩ = some (.int .i64 oc) := by
    rw [hb2.cell (by show w.heap.size + 1 < w1.heap.size; omega)]; simpa [Addr.add] using z4
  have hI2 := hI1.quiet hC hD hb2
  have HR : Hid (Calls Try.prog 82 #[.pointer (some ⟨b.r, 0, none⟩), .int .i64 oa, .int .i64 ob, .int .i64 oc] w2 fun e w' => e = .returned (.tuple #[.string (exRes (Do.there b.cr) oa ob oc).1, .int .i64 (exRes (Do.there b.cr) oa ob oc).2]) ∧ Below w2.heap.size w2 w') := ref_serves.extract oa ob oc hl hra hrb hrc (hI2.ref i b hi)
  clear hI1 hI2 h zp z2 z3 z4
  rw [hcx]
  generalize (exRes (Do.there b.cr) oa ob oc).1 = q1 at *
  generalize (exRes (Do.there b.cr) oa ob oc).2 = q2 at *
  go_wp2_with fail
  refine HR.out.mono ?_
  rintro e w3 ⟨rfl, hb3⟩
  clear HR zzp zz2 zz3 zz4
  go_wp2_with fail
  refine (num_any _ _).mono ?_
  rintro e w4 ⟨rfl, hw4⟩; rw [hw4]; clear hw4
  go_wp2_with fail
  go_ret
  exact ⟨rfl, (hb0.trans (hb2.mono (by omega))).trans (hb3.mono (by omega))⟩

set_option maxHeartbeats 1000000 in
theorem asked_cnt (hC : Serves At 67 73 74 28 34 36 56 35) (hD : Drawn DP) (own : Nat → Nat) (i : Nat) (b : Bk) (o : OpV) (w : World) (h : Inv At DP w B G D v bs own) (hi : bs[i]? = some b) (hcx : b.cx = b.cr) (hl : b.cr.length ≤ 2000000000000) (hk : o.k = 7) (hs : o.s.size ≤ 9223372036854775807) :
    Calls Try.prog 72 #[.pointer (some ⟨G, 0, none⟩), bkV b, opV o] w fun e w' => e = .returned (.bool true) ∧ Below w.heap.size w w' := by
  obtain ⟨ok, oon, oa, ob, oc, os, f0, f1, f2⟩ := o
  dsimp only at *
  subst hk
  unfold bkV opV
  dsimp only
  go_enter Try.func72, Try.ntmps72
  have y0 := World.news_of_block (Below.heap_alloc _ (.cells #[.int .i64 7, .int .i64 oon, .int .i64 oa, .int .i64 ob, .int .i64 oc, .string os, .int .i64 f0, .int .i64 f1, .int .i64 f2] 98) w.heap.size (by simp) |>.trans (heap_alloc_new w (.cells #[.pointer (some ⟨b.x, 0, none⟩), .pointer (some ⟨b.r, 0, none⟩)] 121)))
  have y1 := World.news_of_block (heap_alloc_new (w.alloc (.cells #[.pointer (some ⟨b.x, 0, none⟩), .pointer (some ⟨b.r, 0, none⟩)] 121)) (.cells #[.int .i64 7, .int .i64 oon, .int .i64 oa, .int .i64 ob, .int .i64 oc, .string os, .int .i64 f0, .int .i64 f1, .int .i64 f2] 98))
  have hb0 : Below w.heap.size w ((w.alloc (.cells #[.pointer (some ⟨b.x, 0, none⟩), .pointer (some ⟨b.r, 0, none⟩)] 121)).alloc (.cells #[.int .i64 7, .int .i64 oon, .int .i64 oa, .int .i64 ob, .int .i64 oc, .string os, .int .i64 f0, .int .i64 f1, .int .i64 f2] 98)) := ((Below.refl _ _).alloc (Nat.le_refl _) _).alloc (by simp) _
  have hsz : ((w.alloc (.cells #[.pointer (some ⟨b.x, 0, none⟩), .pointer (some ⟨b.r, 0, none⟩)] 121)).alloc (.cells #[.int .i64 7, .int .i64 oon, .int .i64 oa, .int .i64 ob, .int .i64 oc, .string os, .int .i64 f0, .int .i64 f1, .int .i64 f2] 98)).heap.size = w.heap.size + 2 := by simp
  have zp := y0 1 _ rfl
  have z5 := y1 5 _ rfl
  clear y0 y1
  go_wp2_with fail
  have hI1 := h.quiet hC hD hb0
  generalize (w.alloc (.cells #[.pointer (some ⟨b.x, 0, none⟩), .pointer (some ⟨b.r, 0, none⟩)] 121)).alloc (.cells #[.int .i64 7, .int .i64 oon, .int .i64 oa, .int .i64 ob, .int .i64 oc, .string os, .int .i64 f0, .int .i64 f1, .int .i64 f2] 98) = w1 at *
  refine (hC.count os (by rw [hcx]; exact hl) hs (hI1.code i b hi)).mono ?_
  rintro e w2 ⟨rfl, hb2⟩
  have s2 := hb2.size
  have zzp : w2.cell? ⟨w.heap.size, 1, none⟩ = some (.pointer (some ⟨b.r, 0, none⟩)) := by
    rw [hb2.cell (by show w.heap.size < w1.heap.size; omega)]; simpa [Addr.add] using zp
  have zz5 : w2.cell? ⟨w.heap.size + 1, 5, none⟩ = some (.string os) := by
    rw [hb2.cell (by show w.heap.size + 1 < w1.heap.size; omega)]; simpa [Addr.add] using z5
  have hI2 := hI1.quiet hC hD hb2
  have HR : Hid (Calls Try.prog 83 #[.pointer (some ⟨b.r, 0, none⟩), .string os] w2 fun e w' => e = .returned (.tuple #[.int .i64 (cntRes b.cr os).1, .int .i64 (cntRes b.cr os).2]) ∧ Below w2.heap.size w2 w') := ref_serves.count os hl hs (hI2.ref i b hi)
  clear hI1 hI2 h zp z5
  rw [hcx]
  generalize (cntRes b.cr os).1 = q1 at *
  generalize (cntRes b.cr os).2 = q2 at *
  go_wp2_with fail
  refine HR.out.mono ?_
  rintro e w3 ⟨rfl, hb3⟩
  clear HR zzp zz5
  go_wp2_with fail
  refine (num_any _ _).mono ?_
  rintro e w4 ⟨rfl, hw4⟩; rw [hw4]; clear hw4
  go_wp2_with fail
  go_ret
  exact ⟨rfl, (hb0.trans (hb2.mono (by omega))).trans (hb3.mono (by omega))⟩

set_option maxHeartbeats 1000000 in
theorem asked_ver (hC : Serves At 67 73 74 28 34 36 56 35) (hD : Drawn DP) (own : Nat → Nat) (i : Nat) (b : Bk) (o : OpV) (w : World) (h : Inv At DP w B G D v bs own) (hi : bs[i]? = some b) (hcx : b.cx = b.cr) (hl : b.cr.length ≤ 2000000000000) (hk : o.k = 4) :
    Calls Try.prog 72 #[.pointer (some ⟨G, 0, none⟩), bkV b, opV o] w fun e w' => e = .returned (.bool true) ∧ Below w.heap.size w w' := by
  obtain ⟨ok, oon, oa, ob, oc, os, f0, f1, f2⟩ := o
  dsimp only at *
  subst hk
  unfold bkV opV
  dsimp only
  go_enter Try.func72, Try.ntmps72
  have y0 := World.news_of_block (Below.heap_alloc _ (.cells #[.int .i64 4, .int .i64 oon, .int .i64 oa, .int .i64 ob, .int .i64 oc, .string os, .int .i64 f0, .int .i64 f1, .int .i64 f2] 98) w.heap.size (by simp) |>.trans (heap_alloc_new w (.cells #[.pointer (some ⟨b.x, 0, none⟩), .pointer (some ⟨b.r, 0, none⟩)] 121)))
  have y1 := World.news_of_block (heap_alloc_new (w.alloc (.cells #[.pointer (some ⟨b.x, 0, none⟩), .pointer (some ⟨b.r, 0, none⟩)] 121)) (.cells #[.int .i64 4, .int .i64 oon, .int .i64 oa, .int .i64 ob, .int .i64 oc, .string os, .int .i64 f0, .int .i64 f1, .int .i64 f2] 98))
  have hb0 : Below w.heap.size w ((w.alloc (.cells #[.pointer (some ⟨b.x, 0, none⟩), .pointer (some ⟨b.r, 0, none⟩)] 121)).alloc (.cells #[.int .i64 4, .int .i64 oon, .int .i64 oa, .int .i64 ob, .int .i64 oc, .string os, .int .i64 f0, .int .i64 f1, .int .i64 f2] 98)) := ((Below.refl _ _).alloc (Nat.le_refl _) _).alloc (by simp) _
  have hsz : ((w.alloc (.cells #[.pointer (some ⟨b.x, 0, none⟩), .pointer (some ⟨b.r, 0, none⟩)] 121)).alloc (.cells #[.int .i64 4, .int .i64 oon, .int .i64 oa, .int .i64 ob, .int .i64 oc, .string os, .int .i64 f0, .int .i64 f1, .int .i64 f2] 98)).heap.size = w.heap.size + 2 := by simp
  have zp := y0 1 _ rfl
  clear y0 y1
  go_wp2_with fail
  have hI1 := h.quiet hC hD hb0
  generalize (w.alloc (.cells #[.pointer (some ⟨b.x, 0, none⟩), .pointer (some ⟨b.r, 0, none⟩)] 121)).alloc (.cells #[.int .i64 4, .int .i64 oon, .int .i64 oa, .int .i64 ob, .int .i64 oc, .string os, .int .i64 f0, .int .i64 f1, .int .i64 f2] 98) = w1 at *
  refine (hC.version (by rw [hcx]; exact hl) (hI1.code i b hi)).mono ?_
  rintro e w2 ⟨rfl, hb2⟩
  have s2 := hb2.size
  have zzp : w2.cell? ⟨w.heap.size, 1, none⟩ = some (.pointer (some ⟨b.r, 0, none⟩)) := by
    rw [hb2.cell (by show w.heap.size < w1.heap.size; omega)]; simpa [Addr.add] using zp
  have hI2 := hI1.quiet hC hD hb2
  have HR : Hid (Calls Try.prog 80 #[.pointer (some ⟨b.r, 0, none⟩)] w2 fun e w' => e = .returned (.int .i64 (b.cr.length : Int)) ∧ Below w2.heap.size w2 w') := ref_serves.version hl (hI2.ref i b hi)
  clear hI1 hI2 h zp 
  rw [hcx]
  generalize b.cr.length = q1 at *
  go_wp2_with fail
  refine HR.out.mono ?_
  rintro e w3 ⟨rfl, hb3⟩
  clear HR zzp 
  go_wp2_with fail
  go_ret
  exact ⟨rfl, (hb0.trans (hb2.mono (by omega))).trans (hb3.mono (by omega))⟩

set_option maxHeartbeats 1000000 in
theorem asked_oth (b : Bk) (o : OpV) (w : World) (h4 : (o.k == 4) = false) (h5 : (o.k == 5) = false) (h6 : (o.k == 6) = false) (h7 : (o.k == 7) = false) (h8 : (o.k == 8) = false) (h9 : (o.k == 9) = false) :
    Calls Try.prog 72 #[.pointer (some ⟨G, 0, none⟩), bkV b, opV o] w fun e w' => e = .returned (.bool true) ∧ Below w.heap.size w w' := by
  obtain ⟨ok, oon, oa, ob, oc, os, f0, f1, f2⟩ := o
  dsimp only at *
  unfold bkV opV
  dsimp only
  go_enter Try.func72, Try.ntmps72
  go_wp2_with fail
  go_ret
  exact ⟨rfl, ((Below.refl _ _).alloc (Nat.le_refl _) _).alloc (by simp) _⟩
end

end Go.Proofs.Ytpikkedeoebiaaa
