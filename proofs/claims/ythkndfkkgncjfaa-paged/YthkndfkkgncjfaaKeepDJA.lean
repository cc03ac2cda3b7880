/- DeskG, DeskH, KeepD. -/
import Derived.Test.YthkndfkkgncjfaaKeepAJA
namespace Go.Proofs.Ythkndfkkgncjfaa
open Go.RowKit
set_option maxRecDepth 100000

/-- foliokeep's own look at a place -/
theorem kstand_any (s b : ByteArray) (k : Nat) (q : Bool) (h : Fo.pre s.data.toList b.data.toList k = q) (w : World) (hs : s.size ≤ 1000) (hk : k ≤ s.size) (hb : b.size ≤ 1000) :
    Calls Try.prog 23 #[.string s, .int .i64 (k : Int), .string b] w fun e w' => e = .returned (.bool q) ∧ w' = w := by
  subst h
  by_cases hlen : s.size < k + b.size
  · have HB : Hid (Fo.pre s.data.toList b.data.toList k = false) := by
      rcases Fo.pre_short s.data.toList b.data.toList k (by rw [size_len, size_len]; exact hlen) with h | h
      · exact h
      · have : b.size = 0 := by rw [← size_len, h]; rfl
        omega
    have hd : decide ((k : Int) + (b.size : Int) ≤ (s.size : Int)) = false := by rw [decide_eq_false_iff_not]; omega
    rw [HB.out]
    go_enter Try.func23, Try.ntmps23
    go_wp2
    go_ret
    exact ⟨rfl, rfl⟩
  · have HB : Hid (Fo.pre s.data.toList b.data.toList k = ((s.extract k (k + b.size)).toList == b.toList)) := pre_at s b k
    have hd : decide ((k : Int) + (b.size : Int) ≤ (s.size : Int)) = true := by rw [decide_eq_true_eq]; omega
    rw [HB.out]
    go_enter Try.func23, Try.ntmps23
    go_wp2
    go_ret
    exact ⟨rfl, rfl⟩

section
variable {M : Nat} {At : World → Nat → Int → Int → Int → List Do.Chg → (Nat → Prop) → Prop} {w w' : World} {dk x : Nat} {a b p : Int} {cs : List Do.Chg} {mv : Int} {vi vd : Value} {F G : Nat → Prop}

theorem hits_at (L : List Do.Chg) (q : List UInt8) (i : Nat) (c : Do.Chg) (hc : L[i]? = some c) (k : Nat) (hk : k ≤ c.doc.size) : ∃ r, Do.hits L q = (Do.hitsTo L q i ++ Do.hitsIn c q k) ++ r := by
  have hi : i < L.length := by
    rcases Nat.lt_or_ge i L.length with h | h
    · exact h
    · rw [List.getElem?_eq_none h] at hc; cases hc
  obtain ⟨d, hd⟩ := Nat.le.dest hk
  obtain ⟨r1, hr1⟩ := Do.hitsIn_prefix c q k d
  rw [hd] at hr1
  have step : ∀ n, ∃ r, Do.hitsTo L q (i + 1 + n) = (Do.hitsTo L q i ++ Do.hitsIn c q k) ++ r := by
    intro n
    induction n with
    | zero => exact ⟨r1, by rw [Nat.add_zero, Do.hitsTo_succ L q i c hc, hr1, List.append_assoc]⟩
    | succ n ih =>
      obtain ⟨r, hr⟩ := ih
      rw [← Nat.add_assoc, Do.hitsTo, hr, List.append_assoc]
      exact ⟨_, rfl⟩
  obtain ⟨n, hn⟩ := Nat.le.dest (show i + 1 ≤ L.length by omega)
  obtain ⟨r, hr⟩ := step n
  rw [hn] at hr
  exact ⟨r, hr⟩

set_option maxHeartbeats 2000000 in
theorem dTold_in (s : ByteArray) (B : Nat) (u : Value) (hs : 1 ≤ s.size ∧ s.size ≤ 16) (h : DeskIn At w dk x a b p cs mv vi vd F G) (hu : OwnO w B u (Do.hits (Do.there cs) s.data.toList)) :
    Calls Try.prog 33 #[.pointer (some ⟨dk, 0, none⟩), .string s, u] w fun e w' => e = .returned (.bool true) ∧ Below w.heap.size w w' := by
  obtain ⟨al, cl, rfl, hlc⟩ := hu.any
  obtain ⟨ai, ci, hvi, hri⟩ := row_any h.ri
  obtain ⟨ad, cd, hvd, hrd⟩ := row_any h.rd
  have c4 := h.blk.c4
  have c5 := h.blk.c5
  rw [hvi] at c4
  rw [hvd] at c5
  have hfew := h.fair.few
  have HD : Hid (∀ c ∈ Do.there cs, c.doc.size ≤ 40) := h.fair.docs
  have hHs : (Do.hits (Do.there cs) s.data.toList).length ≤ 2400 := by
    have h1 := Do.hitsTo_len (Do.there cs) s.data.toList h.fair.docs (Do.there cs).length
    show (Do.hitsTo _ _ _).length ≤ _
    omega
  have HLC : Hid (∀ k o, (Do.hits (Do.there cs) s.data.toList)[k]? = some o → ∃ g, al = some ⟨g, 0, none⟩ ∧ w.cell? ⟨g, k * 2, none⟩ = some (.int .i64 (o.id : Int)) ∧ w.cell? ⟨g, k * 2 + 1, none⟩ = some (.int .i64 (o.at' : Int))) := hlc
  have HRI : Hid (∀ k c, (Do.there cs)[k]? = some c → ∃ g, ai = some ⟨g, 0, none⟩ ∧ w.cell? ⟨g, k, none⟩ = some (.int .i64 (c.id : Int))) := fun k c hc => hri k _ (by simp [ID, hc])
  have HRD : Hid (∀ k c, (Do.there cs)[k]? = some c → ∃ g, ad = some ⟨g, 0, none⟩ ∧ w.cell? ⟨g, k, none⟩ = some (.string c.doc)) := fun k c hc => hrd k _ (by simp [SD, hc])
  clear h hu hlc hri hrd hvi hvd
  generalize Do.there cs = L at *
  go_enter Try.func33, Try.ntmps33
  go_wp2_with fail
  go_loopw [7, 8] (fun kk i' wr => ∃ i : Nat, i ≤ L.length ∧ i' = .int .i64 i ∧ kk = .int .i64 ((Do.hitsTo L s.data.toList i).length : Nat) ∧ ∃ m, wr = w.drewN m) (fun _ i' _ => L.length - (intOf i').toNat)
  case atStart => exact ⟨0, Nat.zero_le _, rfl, rfl, 0, rfl⟩
  case round =>
    obtain ⟨i, hi, rfl, rfl, m, rfl⟩ := hrel
    have hkl := Do.hitsTo_len L s.data.toList HD.out i
    by_cases hlt : i < L.length
    · obtain ⟨c, hc⟩ : ∃ c, L[i]? = some c := ⟨L[i], List.getElem?_eq_getElem hlt⟩
      obtain ⟨gi, rfl, e4⟩ := HRI.out i c hc
      obtain ⟨gd, rfl, e5⟩ := HRD.out i c hc
      have hcd := HD.out c (List.mem_of_getElem? hc)
      have HSU : Hid (Do.hitsTo L s.data.toList (i + 1) = Do.hitsTo L s.data.toList i ++ Do.hitsIn c s.data.toList c.doc.size) := Do.hitsTo_succ L _ i c hc
      have HAT : Hid (∀ j, j < c.doc.size → Fo.pre c.doc.data.toList s.data.toList j = true → (Do.hits L s.data.toList)[(Do.hitsTo L s.data.toList i ++ Do.hitsIn c s.data.toList j).length]? = some ⟨c.id, j⟩) := fun j hj hp => by
        obtain ⟨r, hr⟩ := hits_at L s.data.toList i c hc (j + 1) hj
        rw [hr, Do.hitsIn_hit c _ j hp, ← List.append_assoc, List.append_assoc _ [_] r, List.getElem?_append_right (Nat.le_refl _), Nat.sub_self]
        rfl
      clear hc
      go_wp2_with fail
      go_loopw [7, 9] (fun kk a' wr => ∃ j : Nat, j ≤ c.doc.size ∧ a' = .int .i64 j ∧ kk = .int .i64 ((Do.hitsTo L s.data.toList i ++ Do.hitsIn c s.data.toList j).length : Nat) ∧ ∃ m, wr = w.drewN m) (fun _ a' _ => c.doc.size - (intOf a').toNat)
      case atStart => exact ⟨0, Nat.zero_le _, rfl, by rw [Do.hitsIn, List.append_nil], m, rfl⟩
      case round =>
        obtain ⟨j, hj, rfl, rfl, m2, rfl⟩ := hrel
        have hjl := Do.hitsIn_len c s.data.toList j
        have hal : (Do.hitsTo L s.data.toList i ++ Do.hitsIn c s.data.toList j).length ≤ 40 * i + 40 := by rw [List.length_append]; omega
        by_cases hjd : j < c.doc.size
        · obtain ⟨q, hq⟩ : ∃ q, Fo.pre c.doc.data.toList s.data.toList j = q := ⟨_, rfl⟩
          have HST : Hid (∀ W, Calls Try.prog 23 #[.string c.doc, .int .i64 (j : Int), .string s] W fun e w' => e = .returned (.bool q) ∧ w' = W) := fun W => kstand_any c.doc s j q hq W (by omega) (by omega) (by omega)
          cases q
          · have HN : Hid ((Do.hitsTo L s.data.toList i ++ Do.hitsIn c s.data.toList (j + 1)).length = (Do.hitsTo L s.data.toList i ++ Do.hitsIn c s.data.toList j).length) := by show _ = _; rw [Do.hitsIn_miss c _ j hq]
            clear hq HAT HSU
            generalize (Do.hitsTo L s.data.toList i ++ Do.hitsIn c s.data.toList j).length = kn at *
            go_wp2_with fail
            refine (HST.out _).mono ?_
            rintro e w5 ⟨rfl, hw5⟩; rw [hw5]; clear hw5
            go_wp2_with fail
            exact ⟨⟨j + 1, by omega, by go_num, by rw [HN.out], m2, rfl⟩, by simp [intOf]; omega⟩
          · have HN : Hid ((Do.hitsTo L s.data.toList i ++ Do.hitsIn c s.data.toList (j + 1)).length = (Do.hitsTo L s.data.toList i ++ Do.hitsIn c s.data.toList j).length + 1) := by show _ = _; rw [Do.hitsIn_hit c _ j hq, ← List.append_assoc, List.length_append]; rfl
            have hat := HAT.out j hjd hq
            have hklt : (Do.hitsTo L s.data.toList i ++ Do.hitsIn c s.data.toList j).length < (Do.hits L s.data.toList).length := by
              rcases Nat.lt_or_ge (Do.hitsTo L s.data.toList i ++ Do.hitsIn c s.data.toList j).length (Do.hits L s.data.toList).length with h | h
              · exact h
              · rw [List.getElem?_eq_none h] at hat; cases hat
            obtain ⟨gl, rfl, e1, e2⟩ := HLC.out _ _ hat
            dsimp only at e1 e2
            have n1' : ((c.id : Int) != (c.id : Int)) = false := by simp
            have n2' : ((j : Int) != (j : Int)) = false := by simp
            clear hq HAT HSU hat HLC
            generalize (Do.hitsTo L s.data.toList i ++ Do.hitsIn c s.data.toList j).length = kn at *
            generalize (Do.hits L s.data.toList).length = hn at *
            have dk1 : decide ((hn : Int) ≤ (kn : Int)) = false := by rw [decide_eq_false_iff_not]; omega
            go_wp2_with fail
            refine (HST.out _).mono ?_
            rintro e w5 ⟨rfl, hw5⟩; rw [hw5]; clear hw5
            go_wp2_with fail
            go_quiet (fail)
            go_wp2
            go_roundw
            case rel => exact ⟨j + 1, by omega, by go_num, by rw [HN.out]; go_num, _, rfl⟩
            case measure => simp [intOf]; omega
        · have hje : j = c.doc.size := by omega
          subst hje
          have HN : Hid ((Do.hitsTo L s.data.toList (i + 1)).length = (Do.hitsTo L s.data.toList i ++ Do.hitsIn c s.data.toList c.doc.size).length) := by show _ = _; rw [HSU.out]
          clear HSU HAT
          generalize (Do.hitsTo L s.data.toList i ++ Do.hitsIn c s.data.toList c.doc.size).length = kn at *
          go_wp2
          go_roundw
          case rel => exact ⟨i + 1, by omega, by go_num, by rw [HN.out], _, rfl⟩
          case measure => simp [intOf]; omega
    · have hke : i = L.length := by omega
      subst hke
      have hee : (((Do.hitsTo L s.data.toList L.length).length : Int) == ((Do.hits L s.data.toList).length : Int)) = true := by rw [beq_iff_eq]; rfl
      go_wp2
      go_ret
      exact ⟨by first | rfl | (rw [hee]), below_drewN (Below.refl _ _) _⟩

theorem dTold_any (s : ByteArray) (B : Nat) (u : Value) (hs : 1 ≤ s.size ∧ s.size ≤ 16) (h : Desk At w dk a b p cs mv G) (hu : OwnO w B u (Do.hits (Do.there cs) s.data.toList)) :
    Calls Try.prog 33 #[.pointer (some ⟨dk, 0, none⟩), .string s, u] w fun e w' => e = .returned (.bool true) ∧ Below w.heap.size w w' := by
  obtain ⟨x, vi, vd, F, h⟩ := h
  exact dTold_in s B u hs h hu
end

end Go.Proofs.Ythkndfkkgncjfaa

namespace Go.Proofs.Ythkndfkkgncjfaa
open Go.RowKit
set_option maxRecDepth 100000

theorem list_empty' (x : ByteArray) : x.toList.isEmpty = decide (x.size = 0) := by
  rw [ByteArray.toList_eq]
  have h := size_len x
  cases hx : x.data.toList with
  | nil => rw [hx] at h; simp at h; rw [← h]; rfl
  | cons a r => rw [hx] at h; simp at h; rw [← h]; rfl

section
variable {M : Nat} {At : World → Nat → Int → Int → Int → List Do.Chg → (Nat → Prop) → Prop} {w w' : World} {dk x : Nat} {a b p : Int} {cs : List Do.Chg} {mv : Int} {vi vd : Value} {F G : Nat → Prop}

set_option maxHeartbeats 1000000 in
theorem dChosen_in (raw : ByteArray) (n : Int) (hn : inR n) (hr : raw.size ≤ 9223372036854775807) (h : DeskIn At w dk x a b p cs mv vi vd F G) :
    Calls Try.prog 31 #[.pointer (some ⟨dk, 0, none⟩), .string raw, .int .i64 n] w fun e w' => ∃ q : ByteArray, e = .returned (.string q) ∧ 1 ≤ q.size ∧ q.size ≤ 16 ∧ Below w.heap.size w w' := by
  obtain ⟨ai, ci, hvi, hri⟩ := row_any h.ri
  obtain ⟨ad, cd, hvd, hrd⟩ := row_any h.rd
  have c4 := h.blk.c4
  have c5 := h.blk.c5
  rw [hvi] at c4
  rw [hvd] at c5
  have hfew := h.fair.few
  have HD : Hid (∀ c ∈ Do.there cs, c.doc.size ≤ 40) := h.fair.docs
  have HRD : Hid (∀ k c, (Do.there cs)[k]? = some c → ∃ g, ad = some ⟨g, 0, none⟩ ∧ w.cell? ⟨g, k, none⟩ = some (.string c.doc)) := fun k c hc => hrd k _ (by simp [SD, hc])
  clear h hri hrd hvi hvd
  generalize Do.there cs = L at *
  by_cases hA : L.length = 0 ∨ n < 0
  · have HSH := kshort_any raw 16
    have hcs := cut_size raw 16
    have hE := list_empty' (cut raw 16)
    have hor : ((L.length : Int) == 0) = true ∨ (((L.length : Int) == 0) = false ∧ decide (n < 0) = true) := by
      rcases hA with h1 | h1
      · left; rw [beq_iff_eq]; omega
      · by_cases h2 : L.length = 0
        · left; rw [beq_iff_eq]; omega
        · right; exact ⟨by rw [beq_eq_false_iff_ne]; omega, by rw [decide_eq_true_eq]; exact h1⟩
    clear hA
    generalize cut raw 16 = q at *
    rcases hor with o1 | ⟨o1, o2⟩
    all_goals
      by_cases hz : q.size = 0
      · have hq : q.toList.isEmpty = true := by rw [hE, hz]; rfl
        clear hE hz hcs
        go_enter Try.func31, Try.ntmps31
        go_wp2_with fail
        refine (HSH _ hr (by omega)).mono ?_
        rintro e w1 ⟨rfl, hw1⟩; rw [hw1]; clear hw1
        go_wp2
        go_ret
        exact ⟨⟨#[97]⟩, rfl, by decide, by decide, Below.refl _ _⟩
      · have hq : q.toList.isEmpty = false := by rw [hE]; simpa using hz
        have hq2 : 1 ≤ q.size ∧ q.size ≤ 16 := by omega
        clear hE hz hcs
        go_enter Try.func31, Try.ntmps31
        go_wp2_with fail
        refine (HSH _ hr (by omega)).mono ?_
        rintro e w1 ⟨rfl, hw1⟩; rw [hw1]; clear hw1
        go_wp2
        go_ret
        exact ⟨q, rfl, hq2.1, hq2.2, Below.refl _ _⟩
  · obtain ⟨A, rfl⟩ := Int.eq_ofNat_of_zero_le (show 0 ≤ n by omega)
    have hpos : 0 < L.length := by omega
    have o1 : ((L.length : Int) == 0) = false := by rw [beq_eq_false_iff_ne]; omega
    have o2 : decide ((A : Int) < 0) = false := by rw [decide_eq_false_iff_not]; omega
    have hkk := Nat.mod_lt A hpos
    have hmod : ((A : Int).tmod (L.length : Int)) = ((A % L.length : Nat) : Int) := by rw [Int.tmod_eq_emod_of_nonneg (by omega)]; rfl
    obtain ⟨c, hc⟩ : ∃ c, L[A % L.length]? = some c := ⟨L[A % L.length], List.getElem?_eq_getElem hkk⟩
    obtain ⟨gd, rfl, e5⟩ := HRD.out _ c hc
    have hcd := HD.out c (List.mem_of_getElem? hc)
    have hE := list_empty' c.doc
    obtain ⟨hn1, hn2⟩ := hn
    clear hA hc HRD
    generalize A % L.length = kk at *
    by_cases hz : c.doc.size = 0
    · have hq : c.doc.toList.isEmpty = true := by rw [hE, hz]; rfl
      clear hE hz
      go_enter Try.func31, Try.ntmps31
      go_wp2_with fail
      go_quiet (fail)
      go_wp2
      go_ret
      exact ⟨⟨#[97]⟩, rfl, by decide, by decide, below_drewN (Below.refl _ _) _⟩
    · have hq : c.doc.toList.isEmpty = false := by rw [hE]; simpa using hz
      have hff := Nat.mod_lt (A / 7) (show 0 < c.doc.size by omega)
      have h7 : ((A : Int) / 7 % (c.doc.size : Int)) = ((A / 7 % c.doc.size : Nat) : Int) := rfl
      have hnn := Nat.mod_lt (A / 3) (show 0 < 16 by omega)
      have h3 : ((A : Int) / 3 % 16) = ((A / 3 % 16 : Nat) : Int) := rfl
      generalize A / 7 % c.doc.size = ff at *
      generalize A / 3 % 16 = nn at *
      have HSH : Hid (∀ W, Calls Try.prog 17 #[.string (c.doc.extract ff c.doc.size), .int .i64 (1 + (nn : Int))] W fun e w' => e = .returned (.string (cut (c.doc.extract ff c.doc.size) (1 + nn))) ∧ w' = W) := fun W => by
        have := kshort_any (c.doc.extract ff c.doc.size) (1 + nn) W (by rw [ByteArray.size_extract]; omega) (by omega)
        rw [show ((1 + nn : Nat) : Int) = 1 + (nn : Int) from by omega] at this
        exact this
      have HSZ : Hid (1 ≤ (cut (c.doc.extract ff c.doc.size) (1 + nn)).size ∧ (cut (c.doc.extract ff c.doc.size) (1 + nn)).size ≤ 16) := by
        have := cut_size (c.doc.extract ff c.doc.size) (1 + nn)
        rw [ByteArray.size_extract] at this
        show _ ∧ _
        omega
      clear hE hz
      go_enter Try.func31, Try.ntmps31
      go_wp2_with fail
      go_quiet (fail)
      go_wp2_with fail
      refine (HSH.out _).mono ?_
      rintro e w1 ⟨rfl, hw1⟩; rw [hw1]; clear hw1
      go_wp2
      go_ret
      exact ⟨_, rfl, HSZ.out.1, HSZ.out.2, below_drewN (Below.refl _ _) _⟩

theorem dChosen_any (raw : ByteArray) (n : Int) (hn : inR n) (hr : raw.size ≤ 9223372036854775807) (h : Desk At w dk a b p cs mv G) :
    Calls Try.prog 31 #[.pointer (some ⟨dk, 0, none⟩), .string raw, .int .i64 n] w fun e w' => ∃ q : ByteArray, e = .returned (.string q) ∧ 1 ≤ q.size ∧ q.size ≤ 16 ∧ Below w.heap.size w w' := by
  obtain ⟨x, vi, vd, F, h⟩ := h
  exact dChosen_in raw n hn hr h
end

end Go.Proofs.Ythkndfkkgncjfaa

namespace Go.Proofs.Ythkndfkkgncjfaa
open Go.RowKit
set_option maxRecDepth 100000

section
variable {M : Nat} {At : World → Nat → Int → Int → Int → List Do.Chg → (Nat → Prop) → Prop}

/-- behind a step of one desk -/
theorem one_step {B dk : Nat} {w w1 : World} {a b p : Int} {cs' : List Do.Chg} {mv' : Int} {G : Nat → Prop} (hB : B ≤ w.heap.size) (hG : ∀ k, G k → B ≤ k) (hm : Moved At dk a b p cs' mv' G w w1) : (∃ G', Desk At w1 dk a b p cs' mv' G' ∧ ∀ k, G' k → B ≤ k) ∧ Below B w w1 := by
  obtain ⟨ho, G', hd, hk⟩ := hm
  exact ⟨⟨G', hd, fun k h => (hk k h).elim (hG k) (fun h => by omega)⟩, ho.os, ho.tape, ho.output, ho.size, fun k hk' => ho.block k (by omega) (fun h => by have := hG k h; omega)⟩

set_option maxHeartbeats 4000000 in
theorem paged_law (hC : Keeps M At 67 73 74 28 34 36 56 35) (hM : M ≤ 9000000000000000) (a b p n : Int) (ha : inR a) (hb : inR b) (hp : inR p) (hn : inR n) (sv : Value) (len : Nat) (os : Nat → StV) (s : ByteArray) (hs : s.size ≤ 9223372036854775807) (w : World) (hsc : Steps3 w sv len os) (hlen : len < M) :
    Calls Try.prog 13 #[.agg #[.int .i64 a, .int .i64 b, .int .i64 p], sv, .string s, .int .i64 n] w fun e w' => e = .returned (.bool true) ∧ Below w.heap.size w w' := by
  obtain ⟨a0, cap, rfl, hst⟩ := hsc
  have HST : Hid (∀ k, k < len → ∃ gb off, a0 = some ⟨gb, off, none⟩ ∧ (os k).ok ∧ ∀ j u, (stCells (os k))[j]? = some u → w.cell? ⟨gb, off + k * 3 + j, none⟩ = some u) := hst
  clear hst
  go_enter Try.func13, Try.ntmps13
  go_wp2_with fail
  have hb0 : Below w.heap.size w (w.alloc (.cells #[.int .i64 a, .int .i64 b, .int .i64 p] 51)) := (Below.refl _ _).alloc (Nat.le_refl _) _
  have hs0 : (w.alloc (.cells #[.int .i64 a, .int .i64 b, .int .i64 p] 51)).heap.size = w.heap.size + 1 := by simp
  generalize w.alloc (.cells #[.int .i64 a, .int .i64 b, .int .i64 p] 51) = w0 at *
  refine (kseated_any hC a b p ha hb hp _).mono ?_
  rintro e w1 ⟨dk, G, rfl, hd, hG, hb1⟩
  have s1 := hb1.size
  have HD0 : Hid (∃ mv G, Desk At w1 dk (cA a) (cB b) (cP p) (csAt (cA a) os 0) mv G ∧ ∀ k, G k → w.heap.size ≤ k) := ⟨0, G, hd, fun k hk => by have := hG k hk; omega⟩
  have HB1 : Hid (Below w.heap.size w w1) := hb0.trans (hb1.mono (by omega))
  clear hd hG hb0 hb1
  generalize cA a = A at *
  generalize cB b = b1 at *
  generalize cP p = p1 at *
  go_wp2_with fail
  go_loopw [10] (fun i wr => ∃ k : Nat, k ≤ len ∧ i = .int .i64 k ∧ (∃ mv G, Desk At wr dk A b1 p1 (csAt A os k) mv G ∧ ∀ k, G k → w.heap.size ≤ k) ∧ Below w.heap.size w wr) (fun i _ => len - (intOf i).toNat)
  case atStart => exact ⟨0, Nat.zero_le _, rfl, HD0.out, HB1.out⟩
  case round =>
    obtain ⟨k, hk, rfl, hdd, hbw⟩ := hrel
    clear HD0 HB1
    have hcl := csAt_len A os k
    have sw := hbw.size
    obtain ⟨mv, G1, hd, hG⟩ := hdd
    by_cases hlt : k < len
    · obtain ⟨gb, off, rfl, hok, hcs⟩ := HST.out k hlt
      have hal : gb < w.heap.size := World.block_lt_of_cell? w ⟨gb, off + k * 3 + 0, none⟩ (hcs 0 _ rfl)
      have y0 : wr.cell? ⟨gb, off + k * 3, none⟩ = some (.int .i64 (os k).k) := (hbw.cell (p := ⟨gb, off + k * 3 + 0, none⟩) hal).trans (hcs 0 _ rfl)
      have y1 : wr.cell? ⟨gb, off + k * 3 + 1, none⟩ = some (.int .i64 (os k).a) := (hbw.cell (p := ⟨gb, off + k * 3 + 1, none⟩) hal).trans (hcs 1 _ rfl)
      have y2 : wr.cell? ⟨gb, off + k * 3 + 2, none⟩ = some (.string (os k).s) := (hbw.cell (p := ⟨gb, off + k * 3 + 2, none⟩) hal).trans (hcs 2 _ rfl)
      have HS1 : Hid (Calls Try.prog 27 #[.pointer (some ⟨dk, 0, none⟩), .agg #[.int .i64 (os k).k, .int .i64 (os k).a, .string (os k).s]] wr fun e w' => e = .returned (.bool true) ∧ ∃ mv', Moved At dk A b1 p1 (csAt A os (k + 1)) mv' G1 wr w') := dStep_any hC (os k) hok (by omega) hM hd
      clear hcs hd
      go_wp2_with fail
      refine HS1.out.mono ?_
      rintro e wa ⟨rfl, mv1, hmo⟩
      obtain ⟨hd2, hb2⟩ := one_step sw hG hmo
      have HN : Hid (∃ mv G, Desk At wa dk A b1 p1 (csAt A os (k + 1)) mv G ∧ ∀ k, G k → w.heap.size ≤ k) := by
        obtain ⟨G2, q1, q2⟩ := hd2
        exact ⟨mv1, G2, q1, q2⟩
      have HB2 : Hid (Below w.heap.size w wa) := hbw.trans hb2
      clear HS1 hmo hd2 hb2 y0 y1 y2 hbw
      go_wp2_with fail
      exact ⟨⟨k + 1, by omega, by go_num, HN.out, HB2.out⟩, by simp [intOf]; omega⟩
    · have hke : k = len := by omega
      subst hke
      have hkl : decide ((k : Int) < (k : Int)) = false := by simp
      obtain ⟨x, vi, vd, F, hI⟩ := hd
      have HDK : Hid (∀ W, Below wr.heap.size wr W → DeskIn At W dk x A b1 p1 (csAt A os k) mv vi vd F G1) := fun W hW => hI.quiet hC hW
      have hsz : Do.size (Do.there (csAt A os k)) ≤ 2400 := by
        have h1 : Do.size (Do.there (csAt A os k)) ≤ 40 * (Do.there (csAt A os k)).length := Do.sizeTo_le _ hI.fair.docs _
        have h2 := hI.fair.few
        omega
      have HCH : Hid (Calls Try.prog 31 #[.pointer (some ⟨dk, 0, none⟩), .string s, .int .i64 n] wr fun e w' => ∃ q : ByteArray, e = .returned (.string q) ∧ 1 ≤ q.size ∧ q.size ≤ 16 ∧ Below wr.heap.size wr w') := dChosen_in s n hn hs hI
      have HBW : Hid (Below w.heap.size w wr) := hbw
      clear hI hG hbw
      generalize csAt A os k = cs at *
      go_wp2_with fail
      refine HCH.out.mono ?_
      rintro e wa ⟨pt, rfl, hp1, hp2, ba⟩
      have sa := ba.size
      have c7 := (HDK.out wa ba).blk.c7
      have HPG : Hid (Calls Try.prog 32 #[.pointer (some ⟨dk, 0, none⟩), .string pt, .int .i64 ((Do.size (Do.there cs) : Nat) : Int)] wa fun e w' => ∃ u, e = .returned (.tuple #[u, .bool true]) ∧ OwnO w' wa.heap.size u (Do.hits (Do.there cs) pt.data.toList) ∧ Below wa.heap.size wa w') := dPages_any hC pt _ p1 (by omega) hM ⟨hp1, hp2⟩ (Do.hits_size _ _) (by omega) ⟨x, vi, vd, F, HDK.out wa ba⟩
      have hHs : (Do.hits (Do.there cs) pt.data.toList).length ≤ Do.size (Do.there cs) := Do.hits_size _ _
      clear HCH
      go_wp2_with fail
      refine HPG.out.mono ?_
      rintro e wb ⟨u, rfl, hu, bb'⟩
      have sb := bb'.size
      have bb := ba.trans (bb'.mono sa)
      have HTO : Hid (Calls Try.prog 33 #[.pointer (some ⟨dk, 0, none⟩), .string pt, u] wb fun e w' => e = .returned (.bool true) ∧ Below wb.heap.size wb w') := dTold_in pt _ u ⟨hp1, hp2⟩ (HDK.out wb bb) hu
      obtain ⟨au, cu, rfl, _⟩ := hu.any
      clear HPG c7 bb' hu
      go_wp2_with fail
      refine HTO.out.mono ?_
      rintro e wc ⟨rfl, bc'⟩
      have sc := bc'.size
      have bc := bb.trans (bc'.mono (by omega))
      have c0 := (HDK.out wc bc).blk.c0
      have HCO : Hid (Calls Try.prog 34 #[.pointer (some ⟨x, 0, none⟩), .string pt] wc fun e w' => e = .returned (.tuple #[.int .i64 ((Do.hits (Do.there cs) pt.data.toList).length : Int), .int .i64 0]) ∧ Below wc.heap.size wc w') := by
        have := hC.count pt (by omega) (by omega) (HDK.out wc bc).idx
        rw [show cntRes cs pt = (((Do.hits (Do.there cs) pt.data.toList).length : Int), 0) from by unfold cntRes; rw [if_neg (by omega)]] at this
        exact this
      clear HTO bc'
      go_wp2_with fail
      refine HCO.out.mono ?_
      rintro e wd ⟨rfl, bd'⟩
      have sd := bd'.size
      have bd := bc.trans (bd'.mono (by omega))
      clear c0 HCO bd'
      have c0 := (HDK.out wd bd).blk.c0
      have HVE : Hid (Calls Try.prog 35 #[.pointer (some ⟨x, 0, none⟩)] wd fun e w' => e = .returned (.int .i64 (cs.length : Int)) ∧ Below wd.heap.size wd w') := hC.version (by omega) (HDK.out wd bd).idx
      go_wp2_with fail
      refine HVE.out.mono ?_
      rintro e we ⟨rfl, be'⟩
      have se := be'.size
      have be := bd.trans (be'.mono (by omega))
      clear c0 HVE be'
      have c0 := (HDK.out we be).blk.c0
      have HLO : Hid (Calls Try.prog 36 #[.pointer (some ⟨x, 0, none⟩), .string pt, .int .i64 ((cs.length : Int) + 1), .int .i64 0, .int .i64 0] we fun e w' => ∃ v, e = .returned (.tuple #[v, .bool false, .int .i64 6]) ∧ OwnO w' we.heap.size v [] ∧ Below we.heap.size we w') := by
        have := hC.locate pt ((cs.length : Int) + 1) 0 0 (by omega) (by omega) (by unfold inR; omega) (by unfold inR; omega) (by unfold inR; omega) (HDK.out we be).idx
        rw [show locRes cs p1 pt ((cs.length : Int) + 1) 0 0 = ([], false, 6) from by unfold locRes; rw [if_neg (by omega), if_pos (by omega)]] at this
        exact this
      generalize (Do.hits (Do.there cs) pt.data.toList).length = hl at *
      go_wp2_with fail
      refine HLO.out.mono ?_
      rintro e wf ⟨v, rfl, hv, bf'⟩
      have sf := bf'.size
      have bf := be.trans (bf'.mono (by omega))
      obtain ⟨av, cv, rfl, _⟩ := hv.any
      have hll : ((hl : Int) == (hl : Int)) = true := by simp
      clear c0 HLO bf' hv
      go_wp2_with fail
      go_ret
      exact ⟨by first | rfl | simp, HBW.out.trans (bf.mono HBW.out.size)⟩
end

end Go.Proofs.Ythkndfkkgncjfaa
