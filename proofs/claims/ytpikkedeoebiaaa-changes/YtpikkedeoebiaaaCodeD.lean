/- The code's index serves. -/
import Derived.Test.YtpikkedeoebiaaaCodeC
namespace Go.Proofs.Ytpikkedeoebiaaa
open Go.RowKit
set_option maxRecDepth 100000

theorem insTo_same (cs r : List Do.Chg) : ∀ k, k ≤ cs.length → insTo (cs ++ r) k = insTo cs k
  | 0, _ => rfl
  | k + 1, hk => by
    rw [insTo, insTo, insTo_same cs r k (by omega), List.getElem?_append_left (by omega)]
theorem insTo_more (cs : List Do.Chg) (c : Do.Chg) : insTo (cs ++ [c]) (cs ++ [c]).length = insTo cs cs.length + (if c.ins then 1 else 0) := by
  rw [List.length_append, List.length_singleton, insTo_succ (cs ++ [c]) cs.length c (by simp), insTo_same cs [c] _ (Nat.le_refl _)]

/-- the code's index, its blocks told -/
def CIdx (w : World) (x : Nat) (a b p : Int) (cs : List Do.Chg) (F : Nat → Prop) : Prop :=
  ∃ v, CodeAt w x a b p v (insTo cs cs.length : Nat) (cs.length : Nat) ∧ OwnD w 0 v (Do.there cs) ∧ (∀ k, foot x v k → F k) ∧ (∀ k, F k → k < w.heap.size) ∧ (∀ c ∈ Do.there cs, c.doc.size ≤ 40) ∧ okc a b p ∧ (Do.there cs).length ≤ 60

theorem CIdx.stay {w w' : World} {x : Nat} {a b p : Int} {cs : List Do.Chg} {F : Nat → Prop} (h : CIdx w x a b p cs F) (hb : Below w.heap.size w w') : Only F w w' ∧ ∃ G, CIdx w' x a b p cs G ∧ ∀ k, G k → F k ∨ w.heap.size ≤ k := by
  obtain ⟨v, h1, h2, h3, h4, h5, h6, h7⟩ := h
  exact ⟨Only.of_below hb, F, ⟨v, h1.below hb, h2.below hb, h3, fun k hk => Nat.lt_of_lt_of_le (h4 k hk) hb.size, h5, h6, h7⟩, fun k hk => .inl hk⟩

set_option maxHeartbeats 1000000 in
theorem cNew_ok (a b p : Int) (w : World) (ha : 1 ≤ a ∧ a ≤ 400) (hb : 1 ≤ b ∧ b ≤ 80) (hp : 1 ≤ p ∧ p ≤ 8) :
    Calls Try.prog 67 #[.agg #[.int .i64 a, .int .i64 b, .int .i64 p]] w fun e w' => ∃ r, e = .returned (.tuple #[.pointer (some ⟨r, 0, none⟩), .int .i64 0]) ∧ w.heap.size ≤ r ∧ CodeAt w' r a b p (.slice none 0 0) 0 0 ∧ Below w.heap.size w w' := by
  obtain ⟨ha1, ha2⟩ := ha
  obtain ⟨hb1, hb2⟩ := hb
  obtain ⟨hp1, hp2⟩ := hp
  have e1 : decide (a < 1) = false := by rw [decide_eq_false_iff_not]; omega
  have e2 : decide (400 < a) = false := by rw [decide_eq_false_iff_not]; omega
  have e3 : decide (b < 1) = false := by rw [decide_eq_false_iff_not]; omega
  have e4 : decide (80 < b) = false := by rw [decide_eq_false_iff_not]; omega
  have e5 : decide (p < 1) = false := by rw [decide_eq_false_iff_not]; omega
  have e6 : decide (8 < p) = false := by rw [decide_eq_false_iff_not]; omega
  go_enter Try.func67, Try.ntmps67
  go_wp2
  go_ret2
  refine ⟨w.heap.size + 1, rfl, by omega, ?_, ((Below.refl _ _).alloc (Nat.le_refl _) _).alloc (by simp) _⟩
  have := heap_alloc_new (w.alloc (.cells #[.int .i64 a, .int .i64 b, .int .i64 p] 51)) (.cells #[.int .i64 a, .int .i64 b, .int .i64 p, .slice none 0 0, .int .i64 0, .int .i64 0] 107)
  simpa [CodeAt] using this

set_option maxHeartbeats 1000000 in
theorem cNew_no (a b p : Int) (w : World) (h : ¬ (1 ≤ a ∧ a ≤ 400 ∧ 1 ≤ b ∧ b ≤ 80 ∧ 1 ≤ p ∧ p ≤ 8)) :
    Calls Try.prog 67 #[.agg #[.int .i64 a, .int .i64 b, .int .i64 p]] w fun e w' => e = .returned (.tuple #[.pointer none, .int .i64 1]) ∧ Below w.heap.size w w' := by
  by_cases h1 : a < 1
  · go_enter Try.func67, Try.ntmps67
    go_wp2
    go_ret2
    exact ⟨rfl, (Below.refl _ _).alloc (Nat.le_refl _) _⟩
  · by_cases h2 : 400 < a
    · go_enter Try.func67, Try.ntmps67
      go_wp2
      go_ret2
      exact ⟨rfl, (Below.refl _ _).alloc (Nat.le_refl _) _⟩
    · by_cases h3 : b < 1
      · go_enter Try.func67, Try.ntmps67
        go_wp2
        go_ret2
        exact ⟨rfl, (Below.refl _ _).alloc (Nat.le_refl _) _⟩
      · by_cases h4 : 80 < b
        · go_enter Try.func67, Try.ntmps67
          go_wp2
          go_ret2
          exact ⟨rfl, (Below.refl _ _).alloc (Nat.le_refl _) _⟩
        · by_cases h5 : p < 1
          · go_enter Try.func67, Try.ntmps67
            go_wp2
            go_ret2
            exact ⟨rfl, (Below.refl _ _).alloc (Nat.le_refl _) _⟩
          · have h6 : 8 < p := by omega
            clear h
            go_enter Try.func67, Try.ntmps67
            go_wp2
            go_ret2
            exact ⟨rfl, (Below.refl _ _).alloc (Nat.le_refl _) _⟩

set_option maxHeartbeats 400000 in
theorem cInsert_long (x : Nat) (s : ByteArray) (w : World) (hs : 40 < s.size) :
    Calls Try.prog 73 #[.pointer (some ⟨x, 0, none⟩), .string s] w fun e w' => e = .returned (.tuple #[.int .i64 0, .int .i64 2]) ∧ w' = w := by
  go_enter Try.func73, Try.ntmps73
  go_wp2
  go_ret2
  exact ⟨rfl, rfl⟩

set_option maxHeartbeats 1000000 in
theorem cInsert_full (x : Nat) (a b p : Int) (v : Value) (n m : Int) (L : List Do.Chg) (s : ByteArray) (w : World) (hl : L.length ≤ 60) (hd : ∀ c ∈ L, c.doc.size ≤ 40) (ha : 1 ≤ a ∧ a ≤ 400) (h1 : CodeAt w x a b p v n m) (h2 : OwnD w 0 v L) (hs : s.size ≤ 40)
    (hf : a < (Do.size L : Int) + s.size ∨ 60 ≤ L.length) :
    Calls Try.prog 73 #[.pointer (some ⟨x, 0, none⟩), .string s] w fun e w' => e = .returned (.tuple #[.int .i64 0, .int .i64 3]) ∧ Below w.heap.size w w' := by
  have hsz : Do.size L ≤ 40 * L.length := Do.sizeTo_le L hd L.length
  obtain ⟨z, hz⟩ : ∃ z, Do.size L = z := ⟨_, rfl⟩
  have HB : Hid (Calls Try.prog 89 #[.pointer (some ⟨x, 3, none⟩)] w fun e w' => e = .returned (.int .i64 (z : Int)) ∧ Below w.heap.size w w') := cBytes_any x 0 v L z w hz (by omega) hd h1.c3 h2
  rw [hz] at hf hsz
  clear hz hd
  have hs40 : decide ((40 : Int) < (s.size : Int)) = false := by rw [decide_eq_false_iff_not]; omega
  obtain ⟨ha1, ha2⟩ := ha
  go_enter Try.func73, Try.ntmps73
  go_wp2_with fail
  refine HB.out.mono ?_
  rintro e w1 ⟨rfl, hb1⟩
  have c0 := (h1.below hb1).c0
  have c3 := (h1.below hb1).c3
  obtain ⟨ao, cap, rfl, _⟩ := h2.shape2
  by_cases h3 : a < (z : Int) + s.size
  · have h4 : decide (a < (z : Int) + (s.size : Int)) = true := by rw [decide_eq_true_eq]; exact h3
    go_wp2
    go_ret2
    exact ⟨rfl, hb1⟩
  · have h4 : decide (a < (z : Int) + (s.size : Int)) = false := by rw [decide_eq_false_iff_not]; exact h3
    have h5 : decide ((60 : Int) ≤ (L.length : Int)) = true := by rw [decide_eq_true_eq]; omega
    go_wp2_with fail
    refine (cDocs_any x ao L.length cap _ c3).mono ?_
    rintro e w2 ⟨rfl, hw2⟩; rw [hw2]; clear hw2
    go_wp2
    go_ret2
    exact ⟨rfl, hb1⟩

set_option maxHeartbeats 1000000 in
theorem cInsert_ok (x : Nat) (a b p : Int) (v : Value) (N m : Nat) (L : List Do.Chg) (s : ByteArray) (w : World) (hl : L.length ≤ 60) (hN : N ≤ 9000000000000000) (hm : m ≤ 9000000000000000) (hd : ∀ c ∈ L, c.doc.size ≤ 40) (ha : 1 ≤ a ∧ a ≤ 400) (h1 : CodeAt w x a b p v N m) (h2 : OwnD w 0 v L) (hs : s.size ≤ 40)
    (hf : ¬ (a < (Do.size L : Int) + s.size ∨ 60 ≤ L.length)) :
    Calls Try.prog 73 #[.pointer (some ⟨x, 0, none⟩), .string s] w fun e w' => e = .returned (.tuple #[.int .i64 (N : Int), .int .i64 0]) ∧ ∃ v', CodeAt w' x a b p v' ((N : Int) + 1) ((m : Int) + 1) ∧ OwnD w' 0 v' (L ++ [⟨true, s, N⟩]) ∧ Only (foot x v) w w' ∧ (∀ k, foot x v' k → foot x v k ∨ w.heap.size ≤ k) := by
  have hsz : Do.size L ≤ 40 * L.length := Do.sizeTo_le L hd L.length
  obtain ⟨z, hz⟩ : ∃ z, Do.size L = z := ⟨_, rfl⟩
  have HB : Hid (Calls Try.prog 89 #[.pointer (some ⟨x, 3, none⟩)] w fun e w' => e = .returned (.int .i64 (z : Int)) ∧ Below w.heap.size w w') := cBytes_any x 0 v L z w hz (by omega) hd h1.c3 h2
  rw [hz] at hf hsz
  clear hz hd
  have hs40 : decide ((40 : Int) < (s.size : Int)) = false := by rw [decide_eq_false_iff_not]; omega
  obtain ⟨ha1, ha2⟩ := ha
  go_enter Try.func73, Try.ntmps73
  go_wp2_with fail
  refine HB.out.mono ?_
  rintro e w1 ⟨rfl, hb1⟩
  have hr1 := h1.below hb1
  have ho1 := h2.below hb1
  have c0 := hr1.c0
  have c3 := hr1.c3
  clear HB
  obtain ⟨ao, cap, hv, _⟩ := h2.shape2
  rw [hv] at c3
  have h4 : decide (a < (z : Int) + (s.size : Int)) = false := by rw [decide_eq_false_iff_not]; omega
  have h5 : decide ((60 : Int) ≤ (L.length : Int)) = false := by rw [decide_eq_false_iff_not]; omega
  go_wp2_with fail
  refine (cDocs_any x ao L.length cap _ c3).mono ?_
  rintro e w2 ⟨rfl, hw2⟩; rw [hw2]; clear hw2
  go_wp2_with fail
  refine (cAdd_any x a b p v N m L s _ (by omega) hN hr1 ho1).mono ?_
  rintro e w3 ⟨rfl, v', q1, q2, q3, q4⟩
  clear c0 c3
  have c5 := q1.c5
  have f5 := q1.free 5
  have hap := q2.apart q1
  go_wp2_with fail
  go_ret2
  exact ⟨rfl, v', q1.set5 _, ownsRow_setCell_other (a := ⟨x, 5, none⟩) q2 hap _, ((Only.of_below hb1).trans q3).trans (Only.setCell _ _ (.inl rfl)), fun k hk => (q4 k hk).imp (fun h => h) (fun h => by have := hb1.size; omega)⟩

set_option maxHeartbeats 1000000 in
theorem cDelete_none (x : Nat) (a b p : Int) (v : Value) (n m : Int) (L : List Do.Chg) (id : Int) (w : World) (hl : L.length ≤ 60) (h1 : CodeAt w x a b p v n m) (h2 : OwnD w 0 v L) (hf : Do.at? L id = none) :
    Calls Try.prog 74 #[.pointer (some ⟨x, 0, none⟩), .int .i64 id] w fun e w' => e = .returned (.int .i64 4) ∧ Below w.heap.size w w' := by
  have HB : Hid (Calls Try.prog 55 #[.pointer (some ⟨x, 3, none⟩), .int .i64 id] w fun e w' => e = .returned (.tuple #[.string ⟨#[]⟩, .bool false]) ∧ Below w.heap.size w w') := cFind_any x 0 v L id (⟨#[]⟩, false) w (by unfold fdRes; rw [hf]) (by omega) h1.c3 h2
  clear hf
  go_enter Try.func74, Try.ntmps74
  go_wp2_with fail
  refine HB.out.mono ?_
  rintro e w1 ⟨rfl, hb1⟩
  go_wp2
  go_ret
  exact ⟨rfl, hb1⟩

set_option maxHeartbeats 1000000 in
theorem cDelete_ok (x : Nat) (a b p : Int) (v : Value) (n : Int) (m : Nat) (L : List Do.Chg) (id : Int) (k : Nat) (c : Do.Chg) (w : World) (hl : L.length ≤ 60) (hm : m ≤ 9000000000000000) (h1 : CodeAt w x a b p v n m) (h2 : OwnD w 0 v L) (hf : Do.at? L id = some k) (hc : L[k]? = some c) :
    Calls Try.prog 74 #[.pointer (some ⟨x, 0, none⟩), .int .i64 id] w fun e w' => e = .returned (.int .i64 0) ∧ ∃ v', CodeAt w' x a b p v' n ((m : Int) + 1) ∧ OwnD w' 0 v' (Do.without L id L.length) ∧ Only (foot x v) w w' ∧ (∀ k, foot x v' k → foot x v k ∨ w.heap.size ≤ k) := by
  have HB : Hid (Calls Try.prog 55 #[.pointer (some ⟨x, 3, none⟩), .int .i64 id] w fun e w' => e = .returned (.tuple #[.string c.doc, .bool true]) ∧ Below w.heap.size w w') := cFind_any x 0 v L id (c.doc, true) w (by unfold fdRes; rw [hf]; simp only [hc]) (by omega) h1.c3 h2
  clear hf hc
  go_enter Try.func74, Try.ntmps74
  go_wp2_with fail
  refine HB.out.mono ?_
  rintro e w1 ⟨rfl, hb1⟩
  have hr1 := h1.below hb1
  have ho1 := h2.below hb1
  clear HB
  go_wp2_with fail
  refine (cRemove_any x a b p v n m L id _ (by omega) hr1 ho1).mono ?_
  rintro e w3 ⟨rfl, v', q1, q2, q3, q4⟩
  have c5 := q1.c5
  have f5 := q1.free 5
  have hap := q2.apart q1
  go_wp2_with fail
  go_ret
  exact ⟨rfl, v', q1.set5 _, ownsRow_setCell_other (a := ⟨x, 5, none⟩) q2 hap _, ((Only.of_below hb1).trans q3).trans (Only.setCell _ _ (.inl rfl)), fun k hk => (q4 k hk).imp (fun h => h) (fun h => by have := hb1.size; omega)⟩

end Go.Proofs.Ytpikkedeoebiaaa
