/- One step of a script, whichever it is (but for List, Locate, Stats, and the words of texts). -/
import Derived.Test.YtpikkedeoebiaaaLawF
namespace Go.Proofs.Ytpikkedeoebiaaa
open Go.RowKit
set_option maxRecDepth 100000

/-- the books agree, and none is longer than n changes -/
structure Good (bs : List Bk) (n : Nat) : Prop where
  len : bs.length ≤ n
  each : ∀ b ∈ bs, b.cx = b.cr ∧ b.cr.length ≤ n

theorem Good.mono {bs : List Bk} {n m : Nat} (h : Good bs n) (hm : n ≤ m) : Good bs m := ⟨Nat.le_trans h.len hm, fun b hb => ⟨(h.each b hb).1, Nat.le_trans (h.each b hb).2 hm⟩⟩
theorem Good.more {bs : List Bk} {n : Nat} (h : Good bs n) (x r : Nat) (a b p : Int) : Good (bs ++ [⟨x, r, a, b, p, [], []⟩]) (n + 1) := by
  refine ⟨by have := h.len; simp; omega, fun c hc => ?_⟩
  rw [List.mem_append] at hc
  rcases hc with hc | hc
  · exact (h.mono (Nat.le_succ _)).each c hc
  · simp at hc; subst hc; exact ⟨rfl, Nat.zero_le _⟩
theorem Good.set {bs : List Bk} {n : Nat} (h : Good bs n) (i : Nat) (b : Bk) (hb : b.cx = b.cr ∧ b.cr.length ≤ n + 1) : Good (bs.set i b) (n + 1) := by
  refine ⟨by have := h.len; simp; omega, fun c hc => ?_⟩
  rcases List.mem_or_eq_of_mem_set hc with hc | rfl
  · exact (h.mono (Nat.le_succ _)).each c hc
  · exact hb
theorem insRes_len (cs : List Do.Chg) (a : Int) (s : ByteArray) : (insRes cs a s).2.2.length ≤ cs.length + 1 := by
  unfold insRes
  split
  · simp
  · split <;> simp
theorem delRes_len (cs : List Do.Chg) (id : Int) : (delRes cs id).2.length ≤ cs.length + 1 := by
  unfold delRes
  split
  · simp
  · split <;> simp

section
variable {At : World → Nat → Int → Int → Int → List Do.Chg → (Nat → Prop) → Prop} {DP : World → Nat → (Nat → Prop) → Prop}
variable {B G D : Nat} {v : Value} {bs : List Bk}

theorem Inv.low {w w' : World} {own : Nat → Nat} (h : Inv At DP w B G D v bs own) (hB : B ≤ w.heap.size) (ho : Only (fun k => own k ≠ 0) w w') : Below B w w' :=
  ⟨ho.os, ho.tape, ho.output, ho.size, fun k hk => ho.block k (by omega) (fun hf => by have := (h.mine k hf).1; omega)⟩

/-- what a step leaves -/
def After (At : World → Nat → Int → Int → Int → List Do.Chg → (Nat → Prop) → Prop) (DP : World → Nat → (Nat → Prop) → Prop) (B G D n : Nat) (w w' : World) : Prop :=
  ∃ v' bs' own', Inv At DP w' B G D v' bs' own' ∧ Good bs' n ∧ Below B w w'

theorem step_inv (hC : Serves At 67 73 74 28 34 36 56 35) (hD : Drawn DP) (own : Nat → Nat) (n : Nat) (o : OpV) (w : World) (h : Inv At DP w B G D v bs own) (hB : B ≤ w.heap.size) (hg : Good bs n) (hn : n ≤ 2000000000000) (ho : o.ok)
    (h5 : o.k ≠ 5) (h8 : o.k ≠ 8) (h9 : o.k ≠ 9) (h10 : o.k ≠ 10) (h11 : o.k ≠ 11) :
    Calls Try.prog 49 #[.pointer (some ⟨G, 0, none⟩), opV o] w fun e w' => e = .returned (.bool true) ∧ After At DP B G D (n + 1) w w' := by
  obtain ⟨rk, ron, ra, rb, rc, rf0, rf1, rf2, rs⟩ := ho
  have hs : o.s.size ≤ 9223372036854775807 := by unfold maxLen at rs; omega
  have hGl := (h.mine G (by rw [h.ownG]; decide)).2
  by_cases h1 : o.k = 1
  · refine step_new (fun _ w' => After At DP B G D (n + 1) w w') o w h1 ?_
    have hb : Below w.heap.size w (w.alloc (opObj o)) := (Below.refl _ _).alloc (Nat.le_refl _) _
    have hI := h.quiet hC hD hb
    have hB' : B ≤ (w.alloc (opObj o)).heap.size := Nat.le_trans hB hb.size
    by_cases hc : okc o.f0 o.f1 o.f2
    · refine (opened_ok hC hD own o.f0 o.f1 o.f2 _ hc hI hB' (Nat.le_trans hg.len hn)).mono ?_
      rintro e w' ⟨he, x, r, v', own', hI', ho'⟩
      exact ⟨he, v', _, own', hI', hg.more x r _ _ _, (hb.mono hB).trans (hI.low hB' ho')⟩
    · refine (opened_no hC o.f0 o.f1 o.f2 _ hc).mono ?_
      rintro e w' ⟨he, hb'⟩
      exact ⟨he, v, bs, own, hI.quiet hC hD hb', hg.mono (Nat.le_succ _), (hb.mono hB).trans (hb'.mono hB')⟩
  · have b1 : (o.k == 1) = false := by simpa using h1
    have b10 : (o.k == 10) = false := by simpa using h10
    have b11 : (o.k == 11) = false := by simpa using h11
    have cG : w.cell? ⟨G, 0, none⟩ = some v := by rw [cell_of_row w G 0 _ 31 (0, 0) h.wo]; rfl
    rcases Nat.eq_zero_or_pos bs.length with hz | hz
    · obtain ⟨a0, cap, hv⟩ : ∃ a0 cap, v = .slice a0 0 cap := by
        rcases h.row.2 with ⟨rfl, _⟩ | ⟨g, cap, cur, rfl, _⟩
        · exact ⟨none, 0, rfl⟩
        · exact ⟨_, cap, by rw [hz]⟩
      rw [hv] at cG
      refine (step_none o w a0 cap b1 b10 b11 cG hGl).mono ?_
      rintro e w' ⟨he, hb⟩
      exact ⟨he, v, bs, own, h.quiet hC hD hb, hg.mono (Nat.le_succ _), hb.mono hB⟩
    · obtain ⟨g, cap, hv, hgo⟩ : ∃ g cap, v = .slice (some ⟨g, 0, none⟩) bs.length cap ∧ own g = 1 := by
        rcases h.row.2 with ⟨_, h0⟩ | ⟨g, cap, cur, rfl, _⟩
        · omega
        · exact ⟨g, cap, rfl, h.rowOwn g rfl⟩
      rw [hv] at cG
      have hgl := (h.mine g (by rw [hgo]; decide)).2
      have hrow := h.row
      rw [hv] at hrow
      refine step_at (fun _ w' => After At DP B G D (n + 1) w w') o w g bs.length cap b1 b10 b11 ron cG hGl hgl hz (Nat.le_trans hg.len hn) ?_
      intro k hk
      have hi : bs[k]? = some bs[k] := List.getElem?_eq_getElem hk
      generalize bs[k] = b at hi
      have hmem : b ∈ bs := List.mem_of_getElem? hi
      obtain ⟨hcx, hl⟩ := hg.each b hmem
      have c0 : w.cell? ⟨g, k * 2, none⟩ = some (.pointer (some ⟨b.x, 0, none⟩)) := by
        rw [World.ownsRow.cellAt hrow (k * 2) (by omega)]
        exact bks_get bs k 0 b hi (by omega)
      have c1 : w.cell? ⟨g, k * 2 + 1, none⟩ = some (.pointer (some ⟨b.r, 0, none⟩)) := by
        rw [World.ownsRow.cellAt hrow (k * 2 + 1) (by omega)]
        exact bks_get bs k 1 b hi (by omega)
      refine ⟨b.x, b.r, c0, c1, fun w1 hb => ?_⟩
      have hI := h.quiet hC hD hb
      have hB' : B ≤ w1.heap.size := Nat.le_trans hB hb.size
      have quiet : ∀ w', Below w1.heap.size w1 w' → After At DP B G D (n + 1) w w' := fun w' hb' => ⟨v, bs, own, hI.quiet hC hD hb', hg.mono (Nat.le_succ _), (hb.mono hB).trans (hb'.mono hB')⟩
      by_cases h2 : o.k = 2
      · rw [if_pos (.inl h2), if_pos (.inl h2)]
        refine (changed_ins hC hD own k b o w1 hI hi hcx (Nat.le_trans hl hn) h2 hs hB').mono ?_
        rintro e w' ⟨he, _, ho', own', hI'⟩
        exact ⟨he, v, _, own', hI', hg.set k _ ⟨rfl, Nat.le_trans (insRes_len _ _ _) (by omega)⟩, (hb.mono hB).trans (hI.low hB' ho')⟩
      · by_cases h3 : o.k = 3
        · rw [if_pos (.inr h3), if_pos (.inr h3)]
          refine (changed_del hC hD own k b o w1 hI hi hcx (Nat.le_trans hl hn) (by simpa using h2) ra hB').mono ?_
          rintro e w' ⟨he, _, ho', own', hI'⟩
          exact ⟨he, v, _, own', hI', hg.set k _ ⟨rfl, Nat.le_trans (delRes_len _ _) (by omega)⟩, (hb.mono hB).trans (hI.low hB' ho')⟩
        · rw [if_neg (by omega), if_neg (by omega)]
          by_cases h6 : o.k = 6
          · exact (asked_ext hC hD own k b o w1 hI hi hcx (Nat.le_trans hl hn) h6 ra rb rc).mono fun e w' ⟨he, hb'⟩ => ⟨he, quiet w' hb'⟩
          · by_cases h7 : o.k = 7
            · exact (asked_cnt hC hD own k b o w1 hI hi hcx (Nat.le_trans hl hn) h7 hs).mono fun e w' ⟨he, hb'⟩ => ⟨he, quiet w' hb'⟩
            · by_cases h4 : o.k = 4
              · exact (asked_ver hC hD own k b o w1 hI hi hcx (Nat.le_trans hl hn) h4).mono fun e w' ⟨he, hb'⟩ => ⟨he, quiet w' hb'⟩
              · exact (asked_oth b o w1 (by simpa using h4) (by simpa using h5) (by simpa using h6) (by simpa using h7) (by simpa using h8) (by simpa using h9)).mono fun e w' ⟨he, hb'⟩ => ⟨he, quiet w' hb'⟩
end

end Go.Proofs.Ytpikkedeoebiaaa
