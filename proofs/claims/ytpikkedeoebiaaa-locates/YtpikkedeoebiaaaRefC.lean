/- Walks over the document's index: Insert. -/
import Derived.Test.YtpikkedeoebiaaaRefB
namespace Go.Proofs.Ytpikkedeoebiaaa
open Go.RowKit
set_option maxRecDepth 100000

/-- nothing has turned but what is in F, and what is new -/
structure Only (F : Nat → Prop) (w w' : World) : Prop where
  os : w'.os = w.os
  tape : w'.tape = w.tape
  output : w'.output = w.output
  size : w.heap.size ≤ w'.heap.size
  block : ∀ k, k < w.heap.size → ¬ F k → w'.heap[k]? = w.heap[k]?
theorem Only.refl (F : Nat → Prop) (w : World) : Only F w w := ⟨rfl, rfl, rfl, Nat.le_refl _, fun _ _ _ => rfl⟩
theorem Only.trans {F : Nat → Prop} {a b c : World} (h : Only F a b) (k : Only F b c) : Only F a c :=
  ⟨k.os.trans h.os, k.tape.trans h.tape, k.output.trans h.output, Nat.le_trans h.size k.size, fun i hi hf => (k.block i (by have := h.size; omega) hf).trans (h.block i hi hf)⟩
theorem Only.of_below {F : Nat → Prop} {w w' : World} (h : Below w.heap.size w w') : Only F w w' := ⟨h.os, h.tape, h.output, h.size, fun k hk _ => h.block k hk⟩
theorem Only.grown {F : Nat → Prop} {w w1 : World} {row : Option Nat} (h : w.grownBy w1 row) (hr : ∀ k, row = some k → F k) : Only F w w1 := by
  refine ⟨h.os, h.tape, h.output, h.size, fun k hk hf => h.block k hk (fun e => hf (hr k e.symm))⟩
theorem Only.setCell {F : Nat → Prop} {w : World} (p : Addr) (u : Value) (h : F p.block) : Only F w (w.setCell p u) :=
  ⟨rfl, rfl, rfl, by simp, fun k _ hf => Below.heap_setCell w p u k (fun e => hf (by rw [e]; exact h))⟩
theorem Only.mono {F G : Nat → Prop} {w w' : World} (h : Only F w w') (hfg : ∀ k, F k → G k) : Only G w w' := ⟨h.os, h.tape, h.output, h.size, fun k hk hg => h.block k hk (fun hf => hg (hfg k hf))⟩

/-- the blocks of an index -/
def foot (r : Nat) (v : Value) (k : Nat) : Prop := k = r ∨ v.ownBlock = some k

theorem RefAt.set3 {w : World} {r : Nat} {a b p : Int} {v : Value} (h : RefAt w r a b p v) (u : Value) : RefAt (w.setCell ⟨r, 3, none⟩ u) r a b p u := (heap_setCell_same w r 3 _ 131 _ h).trans rfl
theorem RefAt.kept {w w' : World} {r : Nat} {a b p : Int} {v : Value} {row : Option Nat} (h : RefAt w r a b p v) (hg : w.grownBy w' row) (hne : row ≠ some r) : RefAt w' r a b p v := (hg.block r h.lt (fun e => hne e.symm)).trans h
theorem OwnC.apart {w : World} {B r : Nat} {a b p : Int} {u v : Value} {cs : List Do.Chg} (h : RefAt w r a b p u) (k : OwnC w B v cs) : v.ownBlock ≠ some r := by
  intro e
  rcases k.2 with ⟨h2, _⟩ | ⟨g2, cap2, cur2, h2, _, hg2, _⟩
  · rw [h2] at e; simp [Value.ownBlock] at e
  · rw [h2] at e
    simp [Value.ownBlock] at e
    rw [e, h] at hg2
    simp at hg2

/-- one change more is laid -/
theorem put_change {w w1 : World} {r g cap : Nat} {a b p : Int} {v : Value} {cs : List Do.Chg} {c : Do.Chg} {o : Obj} (h : RefAt w r a b p v) (hc : OwnC w 0 v cs)
    (h1 : w1.ownsRow 0 147 3 (.slice (some ⟨g, 0, none⟩) (cs.length + 1) cap) (cs.length + 1) (CH cs ++ CH1 c)) (h2 : (w.alloc o).grownBy w1 v.ownBlock) (h3 : v.ownBlock = some g ∨ g = w.heap.size + 1) :
    RefAt (w1.setCell ⟨r, 3, none⟩ (.slice (some ⟨g, 0, none⟩) (cs.length + 1) cap)) r a b p (.slice (some ⟨g, 0, none⟩) (cs.length + 1) cap) ∧
    OwnC (w1.setCell ⟨r, 3, none⟩ (.slice (some ⟨g, 0, none⟩) (cs.length + 1) cap)) 0 (.slice (some ⟨g, 0, none⟩) (cs.length + 1) cap) (cs ++ [c]) ∧
    Only (foot r v) w (w1.setCell ⟨r, 3, none⟩ (.slice (some ⟨g, 0, none⟩) (cs.length + 1) cap)) ∧
    (∀ k, foot r (.slice (some ⟨g, 0, none⟩) (cs.length + 1) cap) k → foot r v k ∨ w.heap.size ≤ k) := by
  have ha : RefAt (w.alloc o) r a b p v := h.below ((Below.refl _ _).alloc (Nat.le_refl _) o)
  have hap := hc.apart h
  have hb := ha.kept h2 hap
  have hown : OwnC w1 0 (.slice (some ⟨g, 0, none⟩) (cs.length + 1) cap) (cs ++ [c]) := by
    unfold OwnC
    rw [CH_append, List.length_append]
    have : CH [c] = CH1 c := by simp [CH]
    rw [this]; exact h1
  have hgr : g ≠ r := fun e => by
    have := hown.apart hb
    rw [e] at this
    exact this rfl
  refine ⟨hb.set3 _, ownsRow_setCell_other hown (by show some g ≠ some r; simpa using hgr) _, ?_, fun k hk => ?_⟩
  · refine ((Only.of_below ((Below.refl _ _).alloc (Nat.le_refl _) o)).trans (Only.grown h2 (fun k hk => .inr hk))).trans (Only.setCell _ _ (.inl rfl))
  · rcases hk with rfl | hk
    · exact .inl (.inl rfl)
    · simp [Value.ownBlock] at hk
      subst hk
      rcases h3 with h3 | h3
      · exact .inl (.inr h3)
      · right; omega

def insTo (cs : List Do.Chg) : Nat → Nat
  | 0 => 0
  | k + 1 => insTo cs k + (match cs[k]? with | none => 0 | some c => if c.ins then 1 else 0)
theorem insTo_le (cs : List Do.Chg) : ∀ k, insTo cs k ≤ k
  | 0 => Nat.le_refl _
  | k + 1 => by
      have := insTo_le cs k
      rw [insTo]
      cases cs[k]? with
      | none => simp; omega
      | some c => simp only; split <;> omega
theorem insTo_succ (cs : List Do.Chg) (k : Nat) (c : Do.Chg) (h : cs[k]? = some c) : insTo cs (k + 1) = insTo cs k + (if c.ins then 1 else 0) := by rw [insTo, h]

set_option maxHeartbeats 400000 in
theorem rInsert_long (r : Nat) (a b p : Int) (v : Value) (cs : List Do.Chg) (s : ByteArray) (w : World) (hl : cs.length ≤ 2000000000000) (h1 : RefAt w r a b p v) (h2 : OwnC w 0 v cs) (hs : 40 < s.size) :
    Calls Try.prog 78 #[.pointer (some ⟨r, 0, none⟩), .string s] w fun e w' => e = .returned (.tuple #[.int .i64 0, .int .i64 2]) ∧ Below w.heap.size w w' := by
  go_enter Try.func78, Try.ntmps78
  go_wp2_with (go_at_call 93; refine (there_any r a b p cs _ hl ⟨v, h1, h2⟩).mono ?_; rintro e w1 ⟨u, rfl, hu, hb1⟩)
  go_ret2
  exact ⟨rfl, hb1⟩

theorem there_mem (cs : List Do.Chg) : ∀ k, ∀ c ∈ Do.thereTo cs k, c ∈ cs
  | 0, c, h => by simp [Do.thereTo] at h
  | k + 1, c, h => by
      rw [Do.thereTo, List.mem_append] at h
      rcases h with h | h
      · exact there_mem cs k c h
      · split at h
        · cases hc : cs[k]? with
          | none => rw [hc] at h; simp at h
          | some d => rw [hc] at h; simp at h; subst h; exact List.mem_of_getElem? hc
        · simp at h

theorem OwnC.shape2 {w : World} {B : Nat} {v : Value} {cs : List Do.Chg} (h : OwnC w B v cs) : ∃ ao cap, v = .slice ao cs.length cap := by
  rcases h.shape with ⟨rfl, rfl⟩ | ⟨g, cap, rfl, _, _⟩
  · exact ⟨none, 0, rfl⟩
  · exact ⟨_, cap, rfl⟩
theorem bytes_at (B : Nat) (v : Value) (cs : List Do.Chg) (z : Nat) (w : World) (hz : Do.size cs = z) (hl : cs.length ≤ 2000000000000) (hd : ∀ c ∈ cs, c.doc.size ≤ 40) (h : OwnC w B v cs) :
    Calls Try.prog 94 #[v] w fun e w' => e = .returned (.int .i64 (z : Int)) ∧ w' = w := by
  rw [← hz]; exact bytes_any B v cs w hl hd h

set_option maxHeartbeats 1000000 in
theorem rInsert_full (r : Nat) (a b p : Int) (v : Value) (cs : List Do.Chg) (s : ByteArray) (w : World) (hl : cs.length ≤ 2000000000000) (hd : ∀ c ∈ cs, c.doc.size ≤ 40) (ha : 1 ≤ a ∧ a ≤ 400) (h1 : RefAt w r a b p v) (h2 : OwnC w 0 v cs) (hs : s.size ≤ 40)
    (hf : a < (Do.size (Do.there cs) : Int) + s.size ∨ 60 ≤ (Do.there cs).length) :
    Calls Try.prog 78 #[.pointer (some ⟨r, 0, none⟩), .string s] w fun e w' => e = .returned (.tuple #[.int .i64 0, .int .i64 3]) ∧ Below w.heap.size w w' := by
  have hlen := Do.thereTo_len cs cs.length
  have hsz := Do.sizeTo_le (Do.there cs) (fun c hc => hd c (there_mem cs _ c hc)) (Do.there cs).length
  obtain ⟨L, hL⟩ : ∃ L, Do.there cs = L := ⟨_, rfl⟩
  have HTH : Hid (Do.there cs = L) := hL
  have hsz2 : Do.size L ≤ 40 * L.length := by rw [← hL]; exact hsz
  have hlen2 : L.length ≤ cs.length := by rw [← hL]; exact hlen
  have hdL : Hid (∀ c ∈ L, c.doc.size ≤ 40) := fun c hc => hd c (there_mem cs _ c (by rw [← hL] at hc; exact hc))
  rw [hL] at hf
  clear hL hsz hlen hd
  obtain ⟨z, hz⟩ : ∃ z, Do.size L = z := ⟨_, rfl⟩
  have HZ : Hid (Do.size L = z) := hz
  rw [hz] at hf hsz2
  clear hz
  have hs40 : decide ((40 : Int) < (s.size : Int)) = false := by rw [decide_eq_false_iff_not]; omega
  obtain ⟨ha1, ha2⟩ := ha
  go_enter Try.func78, Try.ntmps78
  go_wp2_with fail
  refine (there_any r a b p cs _ hl ⟨v, h1, h2⟩).mono ?_
  rintro e w1 ⟨u, rfl, hu, hb1⟩
  rw [HTH.out] at hu
  clear HTH
  have hr1 := h1.below hb1
  have ho1 := h2.below hb1
  have c0 := hr1.c0
  obtain ⟨ao, cap, rfl⟩ := hu.shape2
  go_wp2_with fail
  by_cases h3 : a < (z : Int) + s.size
  · go_quiet ((go_at_call 94; exact Calls.quiet_of_same (bytes_at _ _ L z _ HZ.out (by omega) hdL.out (by exact hu))))
    go_wp2
    go_ret2
    exact ⟨rfl, below_drewN hb1 _⟩
  · have h4 : decide (a < (z : Int) + (s.size : Int)) = false := by rw [decide_eq_false_iff_not]; exact h3
    have h5 : (60 : Int) ≤ (L.length : Int) := by omega
    go_quiet ((go_at_call 94; exact Calls.quiet_of_same (bytes_at _ _ L z _ HZ.out (by omega) hdL.out (by exact hu))))
    go_wp2
    go_ret2
    exact ⟨rfl, below_drewN hb1 _⟩

set_option maxHeartbeats 1000000 in
theorem rInsert_ok (r : Nat) (a b p : Int) (v : Value) (cs : List Do.Chg) (s : ByteArray) (w : World) (hl : cs.length ≤ 2000000000000) (hd : ∀ c ∈ cs, c.doc.size ≤ 40) (ha : 1 ≤ a ∧ a ≤ 400) (h1 : RefAt w r a b p v) (h2 : OwnC w 0 v cs) (hs : s.size ≤ 40)
    (hf : ¬ (a < (Do.size (Do.there cs) : Int) + s.size ∨ 60 ≤ (Do.there cs).length)) :
    Calls Try.prog 78 #[.pointer (some ⟨r, 0, none⟩), .string s] w fun e w' => e = .returned (.tuple #[.int .i64 (insTo cs cs.length : Nat), .int .i64 0]) ∧ ∃ v', RefAt w' r a b p v' ∧ OwnC w' 0 v' (cs ++ [⟨true, s, insTo cs cs.length⟩]) ∧ Only (foot r v) w w' ∧ (∀ k, foot r v' k → foot r v k ∨ w.heap.size ≤ k) := by
  have hlen := Do.thereTo_len cs cs.length
  have hsz := Do.sizeTo_le (Do.there cs) (fun c hc => hd c (there_mem cs _ c hc)) (Do.there cs).length
  obtain ⟨L, hL⟩ : ∃ L, Do.there cs = L := ⟨_, rfl⟩
  have HTH : Hid (Do.there cs = L) := hL
  have hsz2 : Do.size L ≤ 40 * L.length := by rw [← hL]; exact hsz
  have hlen2 : L.length ≤ cs.length := by rw [← hL]; exact hlen
  have hdL : Hid (∀ c ∈ L, c.doc.size ≤ 40) := fun c hc => hd c (there_mem cs _ c (by rw [← hL] at hc; exact hc))
  rw [hL] at hf
  clear hL hsz hlen hd
  obtain ⟨z, hz⟩ : ∃ z, Do.size L = z := ⟨_, rfl⟩
  have HZ : Hid (Do.size L = z) := hz
  rw [hz] at hf hsz2
  clear hz
  have hs40 : decide ((40 : Int) < (s.size : Int)) = false := by rw [decide_eq_false_iff_not]; omega
  obtain ⟨ha1, ha2⟩ := ha
  go_enter Try.func78, Try.ntmps78
  go_wp2_with fail
  refine (there_any r a b p cs _ hl ⟨v, h1, h2⟩).mono ?_
  rintro e w1 ⟨u, rfl, hu, hb1⟩
  rw [HTH.out] at hu
  clear HTH
  have hr1 := h1.below hb1
  have ho1 := h2.below hb1
  have c0 := hr1.c0
  obtain ⟨ao, cap, rfl⟩ := hu.shape2
  go_wp2_with fail
  have h4 : decide (a < (z : Int) + (s.size : Int)) = false := by rw [decide_eq_false_iff_not]; omega
  have h5 : decide ((60 : Int) ≤ (L.length : Int)) = false := by rw [decide_eq_false_iff_not]; omega
  go_quiet ((go_at_call 94; exact Calls.quiet_of_same (bytes_at _ _ L z _ HZ.out (by omega) hdL.out (by exact hu))))
  have hr2 : RefAt (w1.drewN nq) r a b p v := hr1
  have ho2 : OwnC (w1.drewN nq) 0 v cs := ho1
  have hb2 : Below w.heap.size w (w1.drewN nq) := below_drewN hb1 _
  generalize w1.drewN nq = w2 at *
  clear hr1 ho1 hb1 c0 h1 h2
  have c3 := hr2.c3
  obtain ⟨i0, hi, hz0, hz1, hz2⟩ := info_parts Try.info147
  rcases ho2.shape with ⟨rfl, rfl⟩ | ⟨g, capv, rfl, _, _⟩
  · go_wp2
    refine wp_loop_rounds 1 ?_
    rw [rounds_succ]
    go_wp2_with (at_builtin; refine wpList_append_lies _ rfl _ _ 129 rfl 0 147 i0 (.agg #[.bool false, .string ⟨#[]⟩, .int .i64 0]) 3 32 Try.underlying129 hi hz0 hz1 hz2 rfl (by decide) _ _ _ rfl (World.ownsRow.alloc ho2 _) ⟨w2.heap.size, 0, none⟩ 1 1 (CH1 ⟨true, s, 0⟩) rfl rfl (World.news_of_block (cs := #[.bool true, .string s, .int .i64 ((0 : Nat) : Int)]) (heap_alloc_new w2 _)) (by intro u hu2; simp [CH1] at hu2; rcases hu2 with rfl | rfl | rfl <;> rfl) (by decide) (by unfold maxLen; decide) (by decide) (Nat.zero_le _) (w2.heap.size + 1) (by simp) ?_; intro g' cap' w3 hown3 hgrow3 hat3 hlt3; have R := put_change (c := ⟨true, s, 0⟩) hr2 ho2 hown3 hgrow3 hat3; have hd3 := RefAt.kept (RefAt.below hr2 ((Below.refl _ _).alloc (Nat.le_refl _) _)) hgrow3 (ho2.apart hr2); have c33 := hd3.c3; have f33 := hd3.free 3)
    go_ret2
    exact ⟨rfl, _, R.1, R.2.1, (Only.of_below hb2).trans (R.2.2.1), fun k hk => (R.2.2.2 k hk).imp id (fun h => by have := hb2.size; omega)⟩
  · go_wp2
    go_loop [7, 8] (fun s i => ∃ k : Nat, k ≤ cs.length ∧ i = .int .i64 k ∧ s = .int .i64 (insTo cs k : Nat)) (fun _ i => cs.length - (intOf i).toNat)
    case atStart => exact ⟨0, Nat.zero_le _, rfl, rfl⟩
    case round =>
      obtain ⟨k, hk, rfl, rfl⟩ := hrel
      have hle := insTo_le cs k
      by_cases hlt : k < cs.length
      · obtain ⟨c, hck⟩ : ∃ c, cs[k]? = some c := ⟨cs[k], List.getElem?_eq_getElem hlt⟩
        obtain ⟨x0, _, _⟩ := ho2.cell rfl k c hck
        have HS : Hid (insTo cs (k + 1) = insTo cs k + (if c.ins then 1 else 0)) := insTo_succ cs k c hck
        obtain ⟨q, hq⟩ : ∃ q, c.ins = q := ⟨_, rfl⟩
        have HQ : Hid (c.ins = q) := hq
        rw [hq] at x0
        clear hck hq
        cases q
        all_goals
          go_wp2
          go_round
          case rel => exact ⟨k + 1, by omega, by go_num, by rw [HS.out, HQ.out]; simp⟩
          case measure => simp [intOf]; omega
      · have hke : k = cs.length := by omega
        subst hke
        have hdn : decide ((cs.length : Int) < (cs.length : Int)) = false := by simp
        go_wp2_with (at_builtin; refine wpList_append_lies _ rfl _ _ 129 rfl 0 147 i0 (.agg #[.bool false, .string ⟨#[]⟩, .int .i64 0]) 3 32 Try.underlying129 hi hz0 hz1 hz2 rfl (by decide) _ _ _ rfl (World.ownsRow.alloc ho2 _) ⟨w2.heap.size, 0, none⟩ 1 1 (CH1 ⟨true, s, insTo cs cs.length⟩) rfl rfl (World.news_of_block (cs := #[.bool true, .string s, .int .i64 ((insTo cs cs.length : Nat) : Int)]) (heap_alloc_new w2 _)) (by intro u hu2; simp [CH1] at hu2; rcases hu2 with rfl | rfl | rfl <;> rfl) (by decide) (by unfold maxLen; omega) (by omega) (Nat.zero_le _) (w2.heap.size + 1) (by simp) ?_; intro g' cap' w3 hown3 hgrow3 hat3 hlt3; have R := put_change (c := ⟨true, s, insTo cs cs.length⟩) hr2 ho2 hown3 hgrow3 hat3; have hd3 := RefAt.kept (RefAt.below hr2 ((Below.refl _ _).alloc (Nat.le_refl _) _)) hgrow3 (ho2.apart hr2); have c33 := hd3.c3; have f33 := hd3.free 3)
        go_ret2
        exact ⟨rfl, _, R.1, R.2.1, (Only.of_below hb2).trans (R.2.2.1), fun k hk => (R.2.2.2 k hk).imp id (fun h => by have := hb2.size; omega)⟩

end Go.Proofs.Ytpikkedeoebiaaa
