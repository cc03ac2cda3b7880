/- Walks of the desk: chosen. -/
import Derived.Test.YtpikkedeoebiaaaKeepA
import Derived.Test.YtpikkedeoebiaaaDeskG
namespace Go.Proofs.Ytpikkedeoebiaaa
open Go.RowKit
set_option maxRecDepth 100000

theorem list_empty' (x : ByteArray) : x.toList.isEmpty = decide (x.size = 0) := by
  rw [ByteArray.toList_eq]
  have h := size_len x
  cases hx : x.data.toList with
  | nil => rw [hx] at h; simp at h; rw [← h]; rfl
  | cons a r => rw [hx] at h; simp at h; rw [← h]; rfl

section
variable {M : Nat} {At : World → Nat → Int → Int → Int → List Do.Chg → (Nat → Prop) → Prop} {w w' : World} {dk x : Nat} {a b p : Int} {cs : List Do.Chg} {mv : Int} {vi vd : Value} {F G : Nat → Prop}

set_option maxHeartbeats 1000000 in
theorem dChosen_in (raw : ByteArray) (n : Int) (hn : inR n) (hr : raw.size ≤ 9223372036854775807) (h : DeskIn At w dk x a b p cs mv vi vd F G) :
    Calls Try.prog 31 #[.pointer (some ⟨dk, 0, none⟩), .string raw, .int .i64 n] w fun e w' => ∃ q : ByteArray, e = .returned (.string q) ∧ 1 ≤ q.size ∧ q.size ≤ 16 ∧ Below w.heap.size w w' := by
  obtain ⟨ai, ci, hvi, hri⟩ := row_any h.ri
  obtain ⟨ad, cd, hvd, hrd⟩ := row_any h.rd
  have c4 := h.blk.c4
  have c5 := h.blk.c5
  rw [hvi] at c4
  rw [hvd] at c5
  have hfew := h.fair.few
  have HD : Hid (∀ c ∈ Do.there cs, c.doc.size ≤ 40) := h.fair.docs
  have HRD : Hid (∀ k c, (Do.there cs)[k]? = some c → ∃ g, ad = some ⟨g, 0, none⟩ ∧ w.cell? ⟨g, k, none⟩ = some (.string c.doc)) := fun k c hc => hrd k _ (by simp [SD, hc])
  clear h hri hrd hvi hvd
  generalize Do.there cs = L at *
  by_cases hA : L.length = 0 ∨ n < 0
  · have HSH := kshort_any raw 16
    have hcs := cut_size raw 16
    have hE := list_empty' (cut raw 16)
    have hor : ((L.length : Int) == 0) = true ∨ (((L.length : Int) == 0) = false ∧ decide (n < 0) = true) := by
      rcases hA with h1 | h1
      · left; rw [beq_iff_eq]; omega
      · by_cases h2 : L.length = 0
        · left; rw [beq_iff_eq]; omega
        · right; exact ⟨by rw [beq_eq_false_iff_ne]; omega, by rw [decide_eq_true_eq]; exact h1⟩
    clear hA
    generalize cut raw 16 = q at *
    rcases hor with o1 | ⟨o1, o2⟩
    all_goals
      by_cases hz : q.size = 0
      · have hq : q.toList.isEmpty = true := by rw [hE, hz]; rfl
        clear hE hz hcs
        go_enter Try.func31, Try.ntmps31
        go_wp2_with fail
        refine (HSH _ hr (by omega)).mono ?_
        rintro e w1 ⟨rfl, hw1⟩; rw [hw1]; clear hw1
        go_wp2
        go_ret
        exact ⟨⟨#[97]⟩, rfl, by decide, by decide, Below.refl _ _⟩
      · have hq : q.toList.isEmpty = false := by rw [hE]; simpa using hz
        have hq2 : 1 ≤ q.size ∧ q.size ≤ 16 := by omega
        clear hE hz hcs
        go_enter Try.func31, Try.ntmps31
        go_wp2_with fail
        refine (HSH _ hr (by omega)).mono ?_
        rintro e w1 ⟨rfl, hw1⟩; rw [hw1]; clear hw1
        go_wp2
        go_ret
        exact ⟨q, rfl, hq2.1, hq2.2, Below.refl _ _⟩
  · obtain ⟨A, rfl⟩ := Int.eq_ofNat_of_zero_le (show 0 ≤ n by omega)
    have hpos : 0 < L.length := by omega
    have o1 : ((L.length : Int) == 0) = false := by rw [beq_eq_false_iff_ne]; omega
    have o2 : decide ((A : Int) < 0) = false := by rw [decide_eq_false_iff_not]; omega
    have hkk := Nat.mod_lt A hpos
    have hmod : ((A : Int).tmod (L.length : Int)) = ((A % L.length : Nat) : Int) := by rw [Int.tmod_eq_emod_of_nonneg (by omega)]; rfl
    obtain ⟨c, hc⟩ : ∃ c, L[A % L.length]? = some c := ⟨L[A % L.length], List.getElem?_eq_getElem hkk⟩
    obtain ⟨gd, rfl, e5⟩ := HRD.out _ c hc
    have hcd := HD.out c (List.mem_of_getElem? hc)
    have hE := list_empty' c.doc
    obtain ⟨hn1, hn2⟩ := hn
    clear hA hc HRD
    generalize A % L.length = kk at *
    by_cases hz : c.doc.size = 0
    · have hq : c.doc.toList.isEmpty = true := by rw [hE, hz]; rfl
      clear hE hz
      go_enter Try.func31, Try.ntmps31
      go_wp2_with fail
      go_quiet (fail)
      go_wp2
      go_ret
      exact ⟨⟨#[97]⟩, rfl, by decide, by decide, below_drewN (Below.refl _ _) _⟩
    · have hq : c.doc.toList.isEmpty = false := by rw [hE]; simpa using hz
      have hff := Nat.mod_lt (A / 7) (show 0 < c.doc.size by omega)
      have h7 : ((A : Int) / 7 % (c.doc.size : Int)) = ((A / 7 % c.doc.size : Nat) : Int) := rfl
      have hnn := Nat.mod_lt (A / 3) (show 0 < 16 by omega)
      have h3 : ((A : Int) / 3 % 16) = ((A / 3 % 16 : Nat) : Int) := rfl
      generalize A / 7 % c.doc.size = ff at *
      generalize A / 3 % 16 = nn at *
      have HSH : Hid (∀ W, Calls Try.prog 17 #[.string (c.doc.extract ff c.doc.size), .int .i64 (1 + (nn : Int))] W fun e w' => e = .returned (.string (cut (c.doc.extract ff c.doc.size) (1 + nn))) ∧ w' = W) := fun W => by
        have := kshort_any (c.doc.extract ff c.doc.size) (1 + nn) W (by rw [ByteArray.size_extract]; omega) (by omega)
        rw [show ((1 + nn : Nat) : Int) = 1 + (nn : Int) from by omega] at this
        exact this
      have HSZ : Hid (1 ≤ (cut (c.doc.extract ff c.doc.size) (1 + nn)).size ∧ (cut (c.doc.extract ff c.doc.size) (1 + nn)).size ≤ 16) := by
        have := cut_size (c.doc.extract ff c.doc.size) (1 + nn)
        rw [ByteArray.size_extract] at this
        show _ ∧ _
        omega
      clear hE hz
      go_enter Try.func31, Try.ntmps31
      go_wp2_with fail
      go_quiet (fail)
      go_wp2_with fail
      refine (HSH.out _).mono ?_
      rintro e w1 ⟨rfl, hw1⟩; rw [hw1]; clear hw1
      go_wp2
      go_ret
      exact ⟨_, rfl, HSZ.out.1, HSZ.out.2, below_drewN (Below.refl _ _) _⟩

theorem dChosen_any (raw : ByteArray) (n : Int) (hn : inR n) (hr : raw.size ≤ 9223372036854775807) (h : Desk At w dk a b p cs mv G) :
    Calls Try.prog 31 #[.pointer (some ⟨dk, 0, none⟩), .string raw, .int .i64 n] w fun e w' => ∃ q : ByteArray, e = .returned (.string q) ∧ 1 ≤ q.size ∧ q.size ≤ 16 ∧ Below w.heap.size w w' := by
  obtain ⟨x, vi, vd, F, h⟩ := h
  exact dChosen_in raw n hn hr h
end

end Go.Proofs.Ytpikkedeoebiaaa
