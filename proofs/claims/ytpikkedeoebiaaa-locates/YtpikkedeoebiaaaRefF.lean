/- Walks over the document's index: New, Extract. -/
import Derived.Test.YtpikkedeoebiaaaRefE
namespace Go.Proofs.Ytpikkedeoebiaaa
open Go.RowKit
set_option maxRecDepth 100000

/-- a configuration that may be -/
def okConf (a b p : Int) : Bool := decide (1 ≤ a) && decide (a ≤ 400) && decide (1 ≤ b) && decide (b ≤ 80) && decide (1 ≤ p) && decide (p ≤ 8)

set_option maxHeartbeats 1000000 in
theorem rNew_ok (a b p : Int) (w : World) (ha : 1 ≤ a ∧ a ≤ 400) (hb : 1 ≤ b ∧ b ≤ 80) (hp : 1 ≤ p ∧ p ≤ 8) :
    Calls Try.prog 68 #[.agg #[.int .i64 a, .int .i64 b, .int .i64 p]] w fun e w' => ∃ r, e = .returned (.tuple #[.pointer (some ⟨r, 0, none⟩), .int .i64 0]) ∧ w.heap.size ≤ r ∧ RefAt w' r a b p (.slice none 0 0) ∧ Below w.heap.size w w' := by
  obtain ⟨ha1, ha2⟩ := ha
  obtain ⟨hb1, hb2⟩ := hb
  obtain ⟨hp1, hp2⟩ := hp
  have e1 : decide (a < 1) = false := by rw [decide_eq_false_iff_not]; omega
  have e2 : decide (400 < a) = false := by rw [decide_eq_false_iff_not]; omega
  have e3 : decide (b < 1) = false := by rw [decide_eq_false_iff_not]; omega
  have e4 : decide (80 < b) = false := by rw [decide_eq_false_iff_not]; omega
  have e5 : decide (p < 1) = false := by rw [decide_eq_false_iff_not]; omega
  have e6 : decide (8 < p) = false := by rw [decide_eq_false_iff_not]; omega
  go_enter Try.func68, Try.ntmps68
  go_wp2
  go_ret2
  refine ⟨w.heap.size + 1, rfl, by omega, ?_, ((Below.refl _ _).alloc (Nat.le_refl _) _).alloc (by simp) _⟩
  have := heap_alloc_new (w.alloc (.cells #[.int .i64 a, .int .i64 b, .int .i64 p] 51)) (.cells #[.int .i64 a, .int .i64 b, .int .i64 p, .slice none 0 0] 131)
  simpa [RefAt] using this

set_option maxHeartbeats 1000000 in
theorem rNew_no (a b p : Int) (w : World) (h : ¬ (1 ≤ a ∧ a ≤ 400 ∧ 1 ≤ b ∧ b ≤ 80 ∧ 1 ≤ p ∧ p ≤ 8)) :
    Calls Try.prog 68 #[.agg #[.int .i64 a, .int .i64 b, .int .i64 p]] w fun e w' => e = .returned (.tuple #[.pointer none, .int .i64 1]) ∧ Below w.heap.size w w' := by
  by_cases h1 : a < 1
  · go_enter Try.func68, Try.ntmps68
    go_wp2
    go_ret2
    exact ⟨rfl, (Below.refl _ _).alloc (Nat.le_refl _) _⟩
  · by_cases h2 : 400 < a
    · go_enter Try.func68, Try.ntmps68
      go_wp2
      go_ret2
      exact ⟨rfl, (Below.refl _ _).alloc (Nat.le_refl _) _⟩
    · by_cases h3 : b < 1
      · go_enter Try.func68, Try.ntmps68
        go_wp2
        go_ret2
        exact ⟨rfl, (Below.refl _ _).alloc (Nat.le_refl _) _⟩
      · by_cases h4 : 80 < b
        · go_enter Try.func68, Try.ntmps68
          go_wp2
          go_ret2
          exact ⟨rfl, (Below.refl _ _).alloc (Nat.le_refl _) _⟩
        · by_cases h5 : p < 1
          · go_enter Try.func68, Try.ntmps68
            go_wp2
            go_ret2
            exact ⟨rfl, (Below.refl _ _).alloc (Nat.le_refl _) _⟩
          · have h6 : 8 < p := by omega
            clear h
            go_enter Try.func68, Try.ntmps68
            go_wp2
            go_ret2
            exact ⟨rfl, (Below.refl _ _).alloc (Nat.le_refl _) _⟩

/-- what Extract answers -/
def exRes (L : List Do.Chg) (id fr to : Int) : ByteArray × Int := match Do.at? L id with
  | none => (⟨#[]⟩, 4)
  | some k => match L[k]? with
    | none => (⟨#[]⟩, 4)
    | some c => if fr < 0 ∨ to < fr ∨ (c.doc.size : Int) < to then (⟨#[]⟩, 7) else (c.doc.extract fr.toNat to.toNat, 0)

theorem find_at (B : Nat) (v : Value) (cs : List Do.Chg) (id : Int) (o : Option Nat) (w : World) (ho : Do.at? cs id = o) (hl : cs.length ≤ 2000000000000) (h : OwnC w B v cs) :
    Calls Try.prog 95 #[v, .int .i64 id] w fun e w' => e = .returned (.int .i64 (atVal o)) ∧ w' = w := by
  rw [← ho]; exact find_any B v cs id w hl h

set_option maxHeartbeats 1000000 in
theorem rExtract_none (r : Nat) (a b p : Int) (cs : List Do.Chg) (id fr to : Int) (w : World) (hl : cs.length ≤ 2000000000000) (h : IdxAt w r a b p cs) (hf : Do.at? (Do.there cs) id = none) :
    Calls Try.prog 82 #[.pointer (some ⟨r, 0, none⟩), .int .i64 id, .int .i64 fr, .int .i64 to] w fun e w' => e = .returned (.tuple #[.string ⟨#[]⟩, .int .i64 4]) ∧ Below w.heap.size w w' := by
  have hlen : (Do.there cs).length ≤ cs.length := Do.thereTo_len cs cs.length
  have HF : Hid (Do.at? (Do.there cs) id = none) := hf
  clear hf
  go_enter Try.func82, Try.ntmps82
  go_wp2_with fail
  refine (there_any r a b p cs _ hl h).mono ?_
  rintro e w1 ⟨u, rfl, hu, hb1⟩
  obtain ⟨ao, cap, rfl⟩ := hu.shape2
  have HT : Hid (Calls Try.prog 95 #[.slice ao (Do.there cs).length cap, .int .i64 id] w1 fun e w' => e = .returned (.int .i64 (-1)) ∧ w' = w1) := find_at _ _ _ id none w1 HF.out (by omega) hu
  generalize (Do.there cs).length = m at *
  go_wp2_with fail
  refine HT.out.mono ?_
  rintro e w2 ⟨rfl, hw2⟩; rw [hw2]; clear hw2
  go_wp2_with fail
  go_ret2
  exact ⟨rfl, hb1⟩

set_option maxHeartbeats 1000000 in
theorem rExtract_some (r : Nat) (a b p : Int) (cs : List Do.Chg) (id fr to : Int) (k : Nat) (c : Do.Chg) (w : World) (hl : cs.length ≤ 2000000000000) (h : IdxAt w r a b p cs) (hf : Do.at? (Do.there cs) id = some k) (hck : (Do.there cs)[k]? = some c) (_hd : c.doc.size ≤ 40) :
    Calls Try.prog 82 #[.pointer (some ⟨r, 0, none⟩), .int .i64 id, .int .i64 fr, .int .i64 to] w fun e w' => e = .returned (if fr < 0 ∨ to < fr ∨ (c.doc.size : Int) < to then .tuple #[.string ⟨#[]⟩, .int .i64 7] else .tuple #[.string (c.doc.extract fr.toNat to.toNat), .int .i64 0]) ∧ Below w.heap.size w w' := by
  have hlen : (Do.there cs).length ≤ cs.length := Do.thereTo_len cs cs.length
  have hkl : k < (Do.there cs).length := by
    rcases Nat.lt_or_ge k (Do.there cs).length with h | h
    · exact h
    · rw [List.getElem?_eq_none h] at hck; cases hck
  have HF : Hid (Do.at? (Do.there cs) id = some k) := hf
  have HC : Hid ((Do.there cs)[k]? = some c) := hck
  clear hf hck
  go_enter Try.func82, Try.ntmps82
  go_wp2_with fail
  refine (there_any r a b p cs _ hl h).mono ?_
  rintro e w1 ⟨u, rfl, hu, hb1⟩
  rcases hu.shape with ⟨rfl, he⟩ | ⟨gl, cap, rfl, hgl, hgl2⟩
  · rw [he] at hkl; simp at hkl
  · obtain ⟨_, x1, _⟩ := hu.cell rfl k c HC.out
    have HT : Hid (Calls Try.prog 95 #[.slice (some ⟨gl, 0, none⟩) (Do.there cs).length cap, .int .i64 id] w1 fun e w' => e = .returned (.int .i64 (k : Int)) ∧ w' = w1) := find_at _ _ _ id (some k) w1 HF.out (by omega) hu
    clear HC HF hu h
    generalize (Do.there cs).length = m at *
    go_wp2_with fail
    refine HT.out.mono ?_
    rintro e w2 ⟨rfl, hw2⟩; rw [hw2]; clear hw2 HT
    have hkm : (k : Int) < (m : Int) := by omega
    by_cases h1 : fr < 0
    · have HP : Hid (fr < 0 ∨ to < fr ∨ (c.doc.size : Int) < to) := .inl h1
      go_wp2_with fail
      go_ret2
      exact ⟨by first | rfl | (rw [if_pos HP.out]; rfl), hb1⟩
    · by_cases h2 : to < fr
      · have HP : Hid (fr < 0 ∨ to < fr ∨ (c.doc.size : Int) < to) := .inr (.inl h2)
        go_wp2_with fail
        go_ret2
        exact ⟨by first | rfl | (rw [if_pos HP.out]; rfl), hb1⟩
      · by_cases h3 : (c.doc.size : Int) < to
        · have HP : Hid (fr < 0 ∨ to < fr ∨ (c.doc.size : Int) < to) := .inr (.inr h3)
          go_wp2_with fail
          go_ret2
          exact ⟨by first | rfl | (rw [if_pos HP.out]; rfl), hb1⟩
        · have HP : Hid (¬ (fr < 0 ∨ to < fr ∨ (c.doc.size : Int) < to)) := by show ¬ _; omega
          obtain ⟨f, rfl⟩ := Int.eq_ofNat_of_zero_le (show 0 ≤ fr by omega)
          obtain ⟨t, rfl⟩ := Int.eq_ofNat_of_zero_le (show 0 ≤ to by omega)
          have hft : f ≤ t := by omega
          have htd : t ≤ c.doc.size := by omega
          clear h1 h2 h3
          go_wp2_with fail
          go_ret2
          exact ⟨by first | rfl | (rw [if_neg HP.out]; rfl), hb1⟩

end Go.Proofs.Ytpikkedeoebiaaa
