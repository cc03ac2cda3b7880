/- BASE2. One step of a script, List among them. -/
import Derived.Test.YtpikkedeoebiaaaLawN
import Derived.Test.YtpikkedeoebiaaaLawT
namespace Go.Proofs.Ytpikkedeoebiaaa
open Go.RowKit
set_option maxRecDepth 100000

section
variable {At : World → Nat → Int → Int → Int → List Do.Chg → (Nat → Prop) → Prop}

/-- a step that asks a question which lays a list into the drawer -/
theorem step_lays (hC : Serves At 67 73 74 28 34 36 56 35) (B G D m n : Nat) (v : Value) (bs : List Bk) (own : Nat → Nat) (o : OpV) (w : World) (hm : m ≤ n) (h : Inv At (DS m) w B G D v bs own) (hB : B ≤ w.heap.size) (hg : Good bs n) (hn : n ≤ 2000000000000) (ho : o.ok)
    (h1 : o.k ≠ 1) (h2 : o.k ≠ 2) (h3 : o.k ≠ 3) (h10 : o.k ≠ 10) (h11 : o.k ≠ 11)
    (ask : ∀ (k : Nat) (b : Bk) (w1 : World), bs[k]? = some b → b.cx = b.cr → b.cr.length ≤ 2000000000000 → Inv At (DS m) w1 B G D v bs own → B ≤ w1.heap.size → Calls Try.prog 72 #[.pointer (some ⟨G, 0, none⟩), bkV b, opV o] w1 fun e w' => e = .returned (.bool true) ∧ (∃ own', Inv At (DS (m + 1)) w' B G D v bs own') ∧ Below B w1 w') :
    Calls Try.prog 49 #[.pointer (some ⟨G, 0, none⟩), opV o] w fun e w' => e = .returned (.bool true) ∧ Left At DS B G D (n + 1) w w' := by
  obtain ⟨rk, ron, ra, rb, rc, rf0, rf1, rf2, rs⟩ := ho
  have hD := drawn_some m
  have hGl := (h.mine G (by rw [h.ownG]; decide)).2
  have b1 : (o.k == 1) = false := by simpa using h1
  have b10 : (o.k == 10) = false := by simpa using h10
  have b11 : (o.k == 11) = false := by simpa using h11
  have cG : w.cell? ⟨G, 0, none⟩ = some v := by rw [cell_of_row w G 0 _ 31 (0, 0) h.wo]; rfl
  rcases Nat.eq_zero_or_pos bs.length with hz | hz
  · obtain ⟨a0, cap, hv⟩ : ∃ a0 cap, v = .slice a0 0 cap := by
      rcases h.row.2 with ⟨rfl, _⟩ | ⟨g, cap, cur, rfl, _⟩
      · exact ⟨none, 0, rfl⟩
      · exact ⟨_, cap, by rw [hz]⟩
    rw [hv] at cG
    refine (step_none o w a0 cap b1 b10 b11 cG hGl).mono ?_
    rintro e w' ⟨he, hb⟩
    exact ⟨he, m, v, bs, own, by omega, h.quiet hC hD hb, hg.mono (Nat.le_succ _), hb.mono hB⟩
  · obtain ⟨g, cap, hv, hgo⟩ : ∃ g cap, v = .slice (some ⟨g, 0, none⟩) bs.length cap ∧ own g = 1 := by
      rcases h.row.2 with ⟨_, h0⟩ | ⟨g, cap, cur, rfl, _⟩
      · omega
      · exact ⟨g, cap, rfl, h.rowOwn g rfl⟩
    rw [hv] at cG
    have hgl := (h.mine g (by rw [hgo]; decide)).2
    have hrow := h.row
    rw [hv] at hrow
    refine step_at (fun _ w' => Left At DS B G D (n + 1) w w') o w g bs.length cap b1 b10 b11 ron cG hGl hgl hz (Nat.le_trans hg.len hn) ?_
    intro k hk
    have hi : bs[k]? = some bs[k] := List.getElem?_eq_getElem hk
    generalize bs[k] = b at hi
    have hmem : b ∈ bs := List.mem_of_getElem? hi
    obtain ⟨hcx, hl⟩ := hg.each b hmem
    have c0 : w.cell? ⟨g, k * 2, none⟩ = some (.pointer (some ⟨b.x, 0, none⟩)) := by
      rw [World.ownsRow.cellAt hrow (k * 2) (by omega)]
      exact bks_get bs k 0 b hi (by omega)
    have c1 : w.cell? ⟨g, k * 2 + 1, none⟩ = some (.pointer (some ⟨b.r, 0, none⟩)) := by
      rw [World.ownsRow.cellAt hrow (k * 2 + 1) (by omega)]
      exact bks_get bs k 1 b hi (by omega)
    refine ⟨b.x, b.r, c0, c1, fun w1 hb => ?_⟩
    have hI := h.quiet hC hD hb
    have hB' : B ≤ w1.heap.size := Nat.le_trans hB hb.size
    rw [if_neg (by omega), if_neg (by omega)]
    refine (ask k b w1 hi hcx (Nat.le_trans hl hn) hI hB').mono ?_
    rintro e w' ⟨he, ⟨own', hI'⟩, hb'⟩
    exact ⟨he, m + 1, v, bs, own', by omega, hI', hg.mono (Nat.le_succ _), (hb.mono hB).trans hb'⟩

/-- the steps of Changes -/
theorem steps_changes (hC : Serves At 67 73 74 28 34 36 56 35) : StepsTo 1999999999999 At DS 4 5 := by
  intro B G D m n v bs own o w hm hI hB hg hn ho hk
  by_cases h5 : o.k = 5
  · refine step_lays hC B G D m n v bs own o w hm hI hB hg (by omega) ho (by omega) (by omega) (by omega) (by omega) (by omega) ?_
    intro k b w1 hi hcx hl hI1 hB1
    exact asked_lst hC own k b o w1 (by omega) hI1 hB1 hi hcx hl h5 ho.2.2.1 ho.2.2.2.1
  · refine (step_inv hC (drawn_some m) own n o w hI hB hg (by omega) ho h5 (by omega) (by omega) (by omega) (by omega)).mono ?_
    rintro e w' ⟨he, v', bs', own', q1, q2, q3⟩
    exact ⟨he, m, v', bs', own', by omega, q1, q2, q3⟩

theorem changes_law (hC : Serves At 67 73 74 28 34 36 56 35) (sv : Value) (len : Nat) (os : Nat → OpV) (w : World) (hsc : Script w sv len os) (hlen : len ≤ 1999999999999) :
    Calls Try.prog 8 #[sv] w fun e w' => e = .returned (.bool true) ∧ Below w.heap.size w w' := by
  go_enter Try.func8, Try.ntmps8
  go_wp2_with fail
  refine (plays_to (M := 1999999999999) (by omega) hC drawn_some drawn_start 4 5 (steps_changes hC) sv len os w hsc hlen).mono ?_
  rintro e w1 ⟨rfl, hb⟩
  go_wp2_with fail
  go_ret
  exact ⟨rfl, hb⟩
end

end Go.Proofs.Ytpikkedeoebiaaa
