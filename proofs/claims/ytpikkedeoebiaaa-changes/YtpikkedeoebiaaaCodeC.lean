/- Walks over the shelf: Add, Remove. -/
import Derived.Test.YtpikkedeoebiaaaCodeB
namespace Go.Proofs.Ytpikkedeoebiaaa
open Go.RowKit
set_option maxRecDepth 100000

/-- one document more is laid -/
theorem put_doc {w w1 : World} {x g cap : Nat} {a b p : Int} {v : Value} {n m : Int} {cs : List Do.Chg} {c : Do.Chg} {o : Obj} (h : CodeAt w x a b p v n m) (hc : OwnD w 0 v cs)
    (h1 : w1.ownsRow 0 126 2 (.slice (some ⟨g, 0, none⟩) (cs.length + 1) cap) (cs.length + 1) (DD cs ++ DD1 c)) (h2 : (w.alloc o).grownBy w1 v.ownBlock) (h3 : v.ownBlock = some g ∨ g = w.heap.size + 1) :
    CodeAt (w1.setCell ⟨x, 3, none⟩ (.slice (some ⟨g, 0, none⟩) (cs.length + 1) cap)) x a b p (.slice (some ⟨g, 0, none⟩) (cs.length + 1) cap) n m ∧
    OwnD (w1.setCell ⟨x, 3, none⟩ (.slice (some ⟨g, 0, none⟩) (cs.length + 1) cap)) 0 (.slice (some ⟨g, 0, none⟩) (cs.length + 1) cap) (cs ++ [c]) ∧
    Only (foot x v) w (w1.setCell ⟨x, 3, none⟩ (.slice (some ⟨g, 0, none⟩) (cs.length + 1) cap)) ∧
    (∀ k, foot x (.slice (some ⟨g, 0, none⟩) (cs.length + 1) cap) k → foot x v k ∨ w.heap.size ≤ k) := by
  have ha : CodeAt (w.alloc o) x a b p v n m := h.below ((Below.refl _ _).alloc (Nat.le_refl _) o)
  have hap := hc.apart h
  have hb := ha.kept h2 hap
  have hown : OwnD w1 0 (.slice (some ⟨g, 0, none⟩) (cs.length + 1) cap) (cs ++ [c]) := by
    unfold OwnD
    rw [DD_append, List.length_append]
    have : DD [c] = DD1 c := by simp [DD]
    rw [this]; exact h1
  have hgr : g ≠ x := fun e => by
    have := hown.apart hb
    rw [e] at this
    exact this rfl
  refine ⟨hb.set3 _, ownsRow_setCell_other hown (by show some g ≠ some x; simpa using hgr) _, ?_, fun k hk => ?_⟩
  · refine ((Only.of_below ((Below.refl _ _).alloc (Nat.le_refl _) o)).trans (Only.grown h2 (fun k hk => .inr hk))).trans (Only.setCell _ _ (.inl rfl))
  · rcases hk with rfl | hk
    · exact .inl (.inl rfl)
    · simp [Value.ownBlock] at hk
      subst hk
      rcases h3 with h3 | h3
      · exact .inl (.inr h3)
      · right; omega

set_option maxHeartbeats 1000000 in
theorem cAdd_any (x : Nat) (a b p : Int) (v : Value) (N : Nat) (m : Int) (cs : List Do.Chg) (s : ByteArray) (w : World) (hl : cs.length ≤ 1000) (hN : N ≤ 9000000000000000) (h : CodeAt w x a b p v N m) (hc : OwnD w 0 v cs) :
    Calls Try.prog 91 #[.pointer (some ⟨x, 3, none⟩), .string s] w fun e w' => e = .returned (.int .i64 (N : Int)) ∧ ∃ v', CodeAt w' x a b p v' ((N : Int) + 1) m ∧ OwnD w' 0 v' (cs ++ [⟨true, s, N⟩]) ∧ Only (foot x v) w w' ∧ (∀ k, foot x v' k → foot x v k ∨ w.heap.size ≤ k) := by
  obtain ⟨i0, hi, hz0, hz1, hz2⟩ := info_parts Try.info126
  have c3 := h.c3
  have c4 := h.c4
  have hap := hc.apart h
  have hx := h.lt
  go_enter Try.func91, Try.ntmps91
  go_wp2_with (at_builtin; refine wpList_append_lies _ rfl _ _ 103 rfl 0 126 i0 (.agg #[.int .i64 0, .string ⟨#[]⟩]) 2 24 Try.underlying103 hi hz0 hz1 hz2 rfl (by decide) _ _ _ rfl (World.ownsRow.alloc hc _) ⟨w.heap.size, 0, none⟩ 1 1 (DD1 ⟨true, s, N⟩) rfl rfl (World.news_of_block (cs := #[.int .i64 (N : Int), .string s]) (heap_alloc_new w _)) (by intro u hu2; simp [DD1] at hu2; rcases hu2 with rfl | rfl <;> rfl) (by decide) (by unfold maxLen; omega) (by omega) (Nat.zero_le _) (w.heap.size + 1) (by simp) ?_; intro g' cap' w3 hown3 hgrow3 hat3 hlt3; have R := put_doc (c := ⟨true, s, N⟩) h hc hown3 hgrow3 hat3; have hd3 := CodeAt.kept (CodeAt.below h ((Below.refl _ _).alloc (Nat.le_refl _) _)) hgrow3 hap; have c33 := hd3.c3; have f33 := hd3.free 3; have c44 := R.1.c4; have f44 := R.1.free 4)
  go_ret
  exact ⟨rfl, _, R.1.set4 _, ownsRow_setCell_other R.2.1 (R.2.1.apart R.1) _, R.2.2.1.trans (Only.setCell _ _ (.inl rfl)), R.2.2.2⟩

theorem doc_step {w w1 w0 : World} {B : Nat} {v v' : Value} {m : List Do.Chg} {c : Do.Chg} {o : Obj} (hu : OwnD w B v m) (hbl : Below B w0 w) (hB : B ≤ w.heap.size)
    (h1 : w1.ownsRow B 126 2 v' (m.length + 1) (DD m ++ DD1 c)) (h2 : (w.alloc o).grownBy w1 v.ownBlock) : OwnD w1 B v' (m ++ [c]) ∧ Below B w0 w1 := by
  refine ⟨?_, (hbl.alloc hB o).grown h2 (by simp; omega) (fun k hk => (World.ownsRow.lt hu k hk).1)⟩
  unfold OwnD
  rw [DD_append, List.length_append]
  have : DD [c] = DD1 c := by simp [DD]
  rw [this]; exact h1

set_option maxHeartbeats 1000000 in
theorem cRemove_any (x : Nat) (a b p : Int) (v : Value) (n m : Int) (cs : List Do.Chg) (id : Int) (w : World) (hl : cs.length ≤ 1000) (h : CodeAt w x a b p v n m) (hc : OwnD w 0 v cs) :
    Calls Try.prog 92 #[.pointer (some ⟨x, 3, none⟩), .int .i64 id] w fun e w' => e = .returned (.tuple #[]) ∧ ∃ v', CodeAt w' x a b p v' n m ∧ OwnD w' 0 v' (Do.without cs id cs.length) ∧ Only (foot x v) w w' ∧ (∀ k, foot x v' k → foot x v k ∨ w.heap.size ≤ k) := by
  obtain ⟨i0, hi, hz0, hz1, hz2⟩ := info_parts Try.info126
  obtain ⟨ao, cap, rfl, hcc⟩ := hc.shape2
  have HC : Hid (∀ k c, cs[k]? = some c → ∃ g, ao = some ⟨g, 0, none⟩ ∧ w.cell? ⟨g, k * 2, none⟩ = some (.int .i64 (c.id : Int)) ∧ w.cell? ⟨g, k * 2 + 1, none⟩ = some (.string c.doc)) := hcc
  have c3 := h.c3
  have hx := h.lt
  clear hcc
  go_enter Try.func92, Try.ntmps92
  go_wp2_with (at_make; refine wpList_make_own _ rfl _ _ 103 rfl w.heap.size 126 i0 (.agg #[.int .i64 0, .string ⟨#[]⟩]) 2 Try.underlying103 hi hz0 hz1 .i64 .i64 _ cs.length rfl rfl (by omega) (by rw [hz2]; omega) (by unfold maxLen; omega) (Nat.le_refl _) ?_; intro w2 hown2 hgrow2; have hb2 : Below w.heap.size w w2 := (Below.refl _ _).grown hgrow2 (Nat.le_refl _) (fun k hk => by cases hk); have c32 := (hb2.cell (p := ⟨x, 3, none⟩) hx).trans c3)
  have ho0 : OwnD w2 w.heap.size (.slice (some ⟨w.heap.size, 0, none⟩) 0 cs.length) [] := hown2
  clear hown2 hgrow2 c32 c3
  go_loopw [4, 18] (fun u i wr => ∃ k : Nat, k ≤ cs.length ∧ i = .int .i64 k ∧ OwnD wr w.heap.size u (Do.without cs id k) ∧ Below w.heap.size w wr) (fun _ i _ => cs.length - (intOf i).toNat)
  case atStart => exact ⟨0, Nat.zero_le _, rfl, ho0, hb2⟩
  case round =>
    obtain ⟨k, hk, rfl, ho, hb⟩ := hrel
    clear ho0 hb2
    have hwl := Do.without_len cs id k
    by_cases hlt : k < cs.length
    · obtain ⟨c, hck⟩ : ∃ c, cs[k]? = some c := ⟨cs[k], List.getElem?_eq_getElem hlt⟩
      obtain ⟨g, rfl, x0, x1⟩ := HC.out k c hck
      have hg : g < w.heap.size := World.block_lt_of_cell? w _ x0
      have y0 := (hb.cell (p := ⟨g, k * 2, none⟩) hg).trans x0
      have y1 := (hb.cell (p := ⟨g, k * 2 + 1, none⟩) hg).trans x1
      clear x0 x1
      by_cases he : (c.id : Int) = id
      · have he1 : ((c.id : Int) != id) = false := by simp [he]
        have HN : Hid (Do.without cs id (k + 1) = Do.without cs id k) := Do.without_miss cs id k c hck he
        clear hck he
        go_wp2
        go_roundw
        case rel => exact ⟨k + 1, by omega, by go_num, by rw [HN.out]; exact World.ownsRow.alloc ho _, hb.alloc hb.size _⟩
        case measure => simp [intOf]; omega
      · have he1 : ((c.id : Int) != id) = true := by simp [he]
        have HN : Hid (Do.without cs id (k + 1) = Do.without cs id k ++ [c]) := Do.without_hit cs id k c hck he
        clear hck he
        generalize Do.without cs id k = M at *
        have ho2 : OwnD (wr.alloc (.cells #[.int .i64 (c.id : Int), .string c.doc] 126)) w.heap.size u4 M := World.ownsRow.alloc ho _
        have hb2 : Below w.heap.size w (wr.alloc (.cells #[.int .i64 (c.id : Int), .string c.doc] 126)) := hb.alloc hb.size _
        go_wp2_with (at_builtin; refine wpList_append_own _ rfl _ _ 103 rfl w.heap.size 126 i0 (.agg #[.int .i64 0, .string ⟨#[]⟩]) 2 24 Try.underlying103 hi hz0 hz1 hz2 rfl (by decide) _ _ _ rfl (World.ownsRow.alloc ho2 _) ⟨wr.heap.size + 1, 0, none⟩ 1 1 (DD1 c) rfl rfl (news_two wr _ #[.int .i64 (c.id : Int), .string c.doc] _) (by intro u hu2; simp [DD1] at hu2; rcases hu2 with rfl | rfl <;> rfl) (by unfold maxLen; omega) (by omega) (by have := hb2.size; simp at this ⊢; omega) ?_; intro v' w3 hown3 hgrow3 _)
        have R := doc_step (c := c) ho2 hb2 hb2.size hown3 hgrow3
        clear hown3 hgrow3 ho2 hb2 ho hb
        go_wp2
        go_roundw
        case rel => exact ⟨k + 1, by omega, by go_num, by rw [HN.out]; exact R.1, R.2⟩
        case measure => simp [intOf]; omega
    · have hke : k = cs.length := by omega
      subst hke
      have hr := h.below (hb.mono (Nat.le_refl _))
      have c33 := hr.c3
      have f33 := hr.free 3
      have hap := ho.apart hr
      have hlo : ∀ q, u4.ownBlock = some q → w.heap.size ≤ q := fun q hq => (World.ownsRow.lt ho q hq).1
      obtain ⟨au, capu, hu4, _⟩ := ho.shape2
      subst hu4
      go_wp2
      go_end0
      exact ⟨rfl, _, hr.set3 _, OwnD.weaken (ownsRow_setCell_other (a := ⟨x, 3, none⟩) ho hap _) (Nat.zero_le _), (Only.of_below hb).trans (Only.setCell _ _ (.inl rfl)), fun q hq => hq.elim (fun e => .inl (.inl e)) (fun e => .inr (hlo q e))⟩

end Go.Proofs.Ytpikkedeoebiaaa
