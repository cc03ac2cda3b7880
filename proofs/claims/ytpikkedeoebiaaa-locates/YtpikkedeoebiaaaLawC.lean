/- The law: opened, pick, step. -/
import Derived.Test.YtpikkedeoebiaaaLawB
import Derived.Deep.RegionHeld3
namespace Go.Proofs.Ytpikkedeoebiaaa
open Go.RowKit
set_option maxRecDepth 100000

theorem Try.info121 : (Try.prog.info? 121).map (fun i => (i.zero, i.size, i.bytes)) = some (some (.agg #[.pointer none, .pointer none]), 2, 16) := by kernel_rfl

section
variable {At : World → Nat → Int → Int → Int → List Do.Chg → (Nat → Prop) → Prop} {DP : World → Nat → (Nat → Prop) → Prop}
variable {B G D : Nat} {v : Value} {bs : List Bk}

/-- one book more -/
theorem Inv.opened (hC : Serves At 67 73 74 28 34 36 56 35) (hD : Drawn DP) {w w3 w4 : World} {own : Nat → Nat} {x r g cap : Nat} {a b p : Int} {FX FR : Nat → Prop} {o : Obj} (h : Inv At DP w B G D v bs own) (hB : B ≤ w.heap.size) (hb : Below w.heap.size w w3)
    (hx : At w3 x a b p [] FX) (hr : RIdx w3 r a b p [] FR) (hFX : ∀ k, FX k → w.heap.size ≤ k) (hFR : ∀ k, FR k → w.heap.size ≤ k) (hdis : ∀ k, FX k → ¬ FR k)
    (h1 : w4.ownsRow 0 121 2 (.slice (some ⟨g, 0, none⟩) (bs.length + 1) cap) (bs.length + 1) (bks bs ++ bk1 ⟨x, r, a, b, p, [], []⟩)) (h2 : (w3.alloc o).grownBy w4 v.ownBlock) (h3 : v.ownBlock = some g ∨ g = w3.heap.size + 1) (hg4 : g < w4.heap.size) :
    ∃ own', Inv At DP (w4.setCell ⟨G, 0, none⟩ (.slice (some ⟨g, 0, none⟩) (bs.length + 1) cap)) B G D (.slice (some ⟨g, 0, none⟩) (bs.length + 1) cap) (bs ++ [⟨x, r, a, b, p, [], []⟩]) own' ∧
      Only (fun k => own k ≠ 0) w (w4.setCell ⟨G, 0, none⟩ (.slice (some ⟨g, 0, none⟩) (bs.length + 1) cap)) := by
  have hGlt := (h.mine G (by rw [h.ownG]; decide)).2
  have hz := hb.size
  have hgw := h2.size
  have hsz3 : (w3.alloc o).heap.size = w3.heap.size + 1 := by simp
  have h0 : ∀ k, w.heap.size ≤ k → own k = 0 := fun k hk => by
    cases hc : own k with
    | zero => rfl
    | succ n => have := (h.mine k (by rw [hc]; omega)).2; omega
  have hrow3 : ∀ k, v.ownBlock = some k → own k = 1 := h.rowOwn
  -- what is neither the law's own nor new stays
  have hsame : ∀ k, k < w3.heap.size → own k ≠ 1 → (w4.setCell ⟨G, 0, none⟩ (.slice (some ⟨g, 0, none⟩) (bs.length + 1) cap)).heap[k]? = w3.heap[k]? := fun k hk hne => by
    rw [Below.heap_setCell w4 ⟨G, 0, none⟩ _ k (fun e => hne (by rw [e]; exact h.ownG)), h2.block k (by omega) (fun e => hne (hrow3 k e.symm)), Below.heap_alloc w3 o k hk]
  have hGv : v.ownBlock ≠ some G := fun e => by
    rcases h.row.2 with ⟨h2', _⟩ | ⟨g2, cap2, cur2, h2', _, hg2, _⟩
    · rw [h2'] at e; simp [Value.ownBlock] at e
    · rw [h2'] at e
      simp [Value.ownBlock] at e
      rw [e, h.wo] at hg2
      simp at hg2
  have hwo4 : w4.heap[G]? = some (.cells #[v, .pointer (some ⟨D, 0, none⟩)] 31 (0, 0)) := by
    rw [h2.block G (by omega) (fun e => hGv e.symm), Below.heap_alloc w3 o G (by omega), hb.block G hGlt, h.wo]
  have hgG : g ≠ G := fun e => by
    rcases h1.2 with ⟨h2', _⟩ | ⟨g2, cap2, cur2, h2', _, hg2, _⟩
    · simp at h2'
    · simp at h2'
      rw [← h2'.1, e, hwo4] at hg2
      simp at hg2
  have dX : DecidablePred FX := fun _ => Classical.propDecidable _
  have dR : DecidablePred FR := fun _ => Classical.propDecidable _
  let own' : Nat → Nat := fun k => if k < w.heap.size then own k else if FX k then 3 + 2 * bs.length else if FR k then 4 + 2 * bs.length else if k = g then 1 else 0
  have hown' : ∀ k, own' k = (if k < w.heap.size then own k else if FX k then 3 + 2 * bs.length else if FR k then 4 + 2 * bs.length else if k = g then 1 else 0) := fun _ => rfl
  have hold : ∀ k, k < w.heap.size → own' k = own k := fun k hk => by rw [hown' k, if_pos hk]
  have hback : ∀ t, t ≠ 0 → ∀ k, own k = t → own' k = t := fun t ht k hk => by rw [hold k (h.mine k (by rw [hk]; exact ht)).2]; exact hk
  have hlt5 : ∀ k, own' k ≠ 0 → k < w4.heap.size := fun k hk => by
    rw [hown' k] at hk
    by_cases c1 : k < w.heap.size
    · omega
    · rw [if_neg c1] at hk
      by_cases c2 : FX k
      · have := hC.lt hx k c2; omega
      · rw [if_neg c2] at hk
        by_cases c3 : FR k
        · have := ref_serves.lt hr k c3; omega
        · rw [if_neg c3] at hk
          by_cases c4 : k = g
          · omega
          · rw [if_neg c4] at hk; exact absurd rfl hk
  have hsz5 : (w4.setCell ⟨G, 0, none⟩ (.slice (some ⟨g, 0, none⟩) (bs.length + 1) cap)).heap.size = w4.heap.size := by simp
  refine ⟨own', ⟨?_, ?_, ?_, ?_, ?_, ?_, ?_, ?_⟩, ?_⟩
  · exact (heap_setCell_same w4 G 0 _ 31 _ hwo4).trans rfl
  · rw [List.length_append, bks_append]
    have e : bks [(⟨x, r, a, b, p, [], []⟩ : Bk)] = bk1 ⟨x, r, a, b, p, [], []⟩ := by simp [bks]
    rw [e]
    exact ownsRow_setCell_other h1 (by show some g ≠ some G; simpa using hgG) _
  · intro k hk
    simp [Value.ownBlock] at hk
    subst hk
    rcases h3 with h3 | h3
    · exact hback 1 (by decide) g (hrow3 g h3)
    · rw [hown' g, if_neg (by omega), if_neg (fun c => by have := hC.lt hx g c; omega), if_neg (fun c => by have := ref_serves.lt hr g c; omega), if_pos rfl]
  · exact hback 1 (by decide) G h.ownG
  · refine hD.wide (hD.frame h.dr (by rw [hsz5]; omega) (fun k hk => ?_)) (hback 2 (by decide)) (fun k hk => by rw [hsz5]; exact hlt5 k (by rw [hk]; decide))
    have hkl := (h.mine k (by rw [hk]; decide)).2
    rw [hsame k (by omega) (by rw [hk]; decide), hb.block k hkl]
  · intro i c hi
    rw [List.getElem?_append] at hi
    by_cases c1 : i < bs.length
    · rw [if_pos c1] at hi
      refine hC.wide (hC.frame (h.code i c hi) (by rw [hsz5]; omega) (fun k hk => ?_)) (hback _ (by omega)) (fun k hk => by rw [hsz5]; exact hlt5 k (by rw [hk]; omega))
      have hkl := (h.mine k (by rw [hk]; omega)).2
      rw [hsame k (by omega) (by rw [hk]; omega), hb.block k hkl]
    · rw [if_neg c1] at hi
      have hi0 : i = bs.length := by
        rcases Nat.lt_or_ge (i - bs.length) 1 with h5 | h5
        · omega
        · rw [List.getElem?_eq_none (by simpa using h5)] at hi; cases hi
      subst hi0
      rw [Nat.sub_self] at hi
      simp at hi
      subst hi
      refine hC.wide (hC.frame hx (by rw [hsz5]; omega) (fun k hk => ?_)) (fun k hk => ?_) (fun k hk => by rw [hsz5]; exact hlt5 k (by rw [hk]; omega))
      · rw [hsame k (hC.lt hx k hk) (by rw [h0 k (hFX k hk)]; decide)]
      · show own' k = _; rw [hown' k, if_neg (by have := hFX k hk; omega), if_pos hk]
  · intro i c hi
    rw [List.getElem?_append] at hi
    by_cases c1 : i < bs.length
    · rw [if_pos c1] at hi
      refine ref_serves.wide (ref_serves.frame (h.ref i c hi) (by rw [hsz5]; omega) (fun k hk => ?_)) (hback _ (by omega)) (fun k hk => by rw [hsz5]; exact hlt5 k (by rw [hk]; omega))
      have hkl := (h.mine k (by rw [hk]; omega)).2
      rw [hsame k (by omega) (by rw [hk]; omega), hb.block k hkl]
    · rw [if_neg c1] at hi
      have hi0 : i = bs.length := by
        rcases Nat.lt_or_ge (i - bs.length) 1 with h5 | h5
        · omega
        · rw [List.getElem?_eq_none (by simpa using h5)] at hi; cases hi
      subst hi0
      rw [Nat.sub_self] at hi
      simp at hi
      subst hi
      refine ref_serves.wide (ref_serves.frame hr (by rw [hsz5]; omega) (fun k hk => ?_)) (fun k hk => ?_) (fun k hk => by rw [hsz5]; exact hlt5 k (by rw [hk]; omega))
      · rw [hsame k (ref_serves.lt hr k hk) (by rw [h0 k (hFR k hk)]; decide)]
      · show own' k = _; rw [hown' k, if_neg (by have := hFR k hk; omega), if_neg (fun c => hdis k c hk), if_pos hk]
  · intro k hk
    refine ⟨?_, by rw [hsz5]; exact hlt5 k hk⟩
    by_cases c1 : k < w.heap.size
    · rw [hold k c1] at hk; exact (h.mine k hk).1
    · omega
  · refine ⟨?_, ?_, ?_, by rw [hsz5]; omega, fun k hk hf => ?_⟩
    · exact (show (w4.setCell ⟨G, 0, none⟩ (.slice (some ⟨g, 0, none⟩) (bs.length + 1) cap)).os = w4.os from rfl).trans (h2.os.trans hb.os)
    · exact (show (w4.setCell ⟨G, 0, none⟩ (.slice (some ⟨g, 0, none⟩) (bs.length + 1) cap)).tape = w4.tape from rfl).trans (h2.tape.trans hb.tape)
    · exact (show (w4.setCell ⟨G, 0, none⟩ (.slice (some ⟨g, 0, none⟩) (bs.length + 1) cap)).output = w4.output from rfl).trans (h2.output.trans hb.output)
    · have hk0 : own k = 0 := by simpa using hf
      rw [hsame k (by omega) (by rw [hk0]; decide), hb.block k hk]
end

end Go.Proofs.Ytpikkedeoebiaaa
