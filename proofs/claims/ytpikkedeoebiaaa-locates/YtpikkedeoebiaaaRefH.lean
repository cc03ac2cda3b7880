/- Walks over the document's index: Count, Locate. -/
import Derived.Test.YtpikkedeoebiaaaRefG
namespace Go.Proofs.Ytpikkedeoebiaaa
open Go.RowKit
set_option maxRecDepth 100000

set_option maxHeartbeats 400000 in
theorem rCount_no (r : Nat) (s : ByteArray) (w : World) (h : s.size < 1 ∨ 16 < s.size) :
    Calls Try.prog 83 #[.pointer (some ⟨r, 0, none⟩), .string s] w fun e w' => e = .returned (.tuple #[.int .i64 0, .int .i64 5]) ∧ w' = w := by
  rcases h with h | h
  · have h0 : decide ((s.size : Int) < 1) = true := by rw [decide_eq_true_eq]; omega
    go_enter Try.func83, Try.ntmps83
    go_wp2
    go_ret2
    exact ⟨rfl, rfl⟩
  · have h0 : ¬ s.size < 1 := by omega
    go_enter Try.func83, Try.ntmps83
    go_wp2
    go_ret2
    exact ⟨rfl, rfl⟩

set_option maxHeartbeats 400000 in
theorem rCount_ok (r : Nat) (a b p : Int) (cs : List Do.Chg) (s : ByteArray) (w : World) (hl : cs.length ≤ 2000000000000) (hth : (Do.there cs).length ≤ 1000) (hd : ∀ c ∈ cs, c.doc.size ≤ 40) (h : IdxAt w r a b p cs) (hs : 1 ≤ s.size ∧ s.size ≤ 16) :
    Calls Try.prog 83 #[.pointer (some ⟨r, 0, none⟩), .string s] w fun e w' => e = .returned (.tuple #[.int .i64 ((Do.hits (Do.there cs) s.data.toList).length : Int), .int .i64 0]) ∧ Below w.heap.size w w' := by
  obtain ⟨hs1, hs2⟩ := hs
  have HD : Hid (∀ c ∈ cs, c.doc.size ≤ 40) := hd
  clear hd
  go_enter Try.func83, Try.ntmps83
  go_wp2_with fail
  refine (hits_any r a b p cs s _ hl hth HD.out h (by omega)).mono ?_
  rintro e w1 ⟨v, rfl, ho, hb⟩
  obtain ⟨ao, cap, rfl⟩ := ho.shape2
  go_wp2_with fail
  go_ret2
  exact ⟨rfl, hb⟩

set_option maxHeartbeats 400000 in
theorem rLocate_no (r : Nat) (s : ByteArray) (n i t : Int) (w : World) (h : s.size < 1 ∨ 16 < s.size) :
    Calls Try.prog 84 #[.pointer (some ⟨r, 0, none⟩), .string s, .int .i64 n, .int .i64 i, .int .i64 t] w fun e w' => e = .returned (.tuple #[.slice none 0 0, .bool false, .int .i64 5]) ∧ w' = w := by
  rcases h with h | h
  · have h0 : decide ((s.size : Int) < 1) = true := by rw [decide_eq_true_eq]; omega
    go_enter Try.func84, Try.ntmps84
    go_wp2
    go_ret3
    exact ⟨rfl, rfl⟩
  · have h0 : ¬ s.size < 1 := by omega
    go_enter Try.func84, Try.ntmps84
    go_wp2
    go_ret3
    exact ⟨rfl, rfl⟩

set_option maxHeartbeats 400000 in
theorem rLocate_stale (r : Nat) (a b p : Int) (cs : List Do.Chg) (s : ByteArray) (n i t : Int) (w : World) (h : IdxAt w r a b p cs) (hs : 1 ≤ s.size ∧ s.size ≤ 16) (hn : n ≠ (cs.length : Int)) :
    Calls Try.prog 84 #[.pointer (some ⟨r, 0, none⟩), .string s, .int .i64 n, .int .i64 i, .int .i64 t] w fun e w' => e = .returned (.tuple #[.slice none 0 0, .bool false, .int .i64 6]) ∧ w' = w := by
  obtain ⟨hs1, hs2⟩ := hs
  obtain ⟨v, h1, h2⟩ := h
  obtain ⟨ao, cap, rfl⟩ := h2.shape2
  have c3 := h1.c3
  have hb : (n != (cs.length : Int)) = true := by rw [bne_iff_ne]; exact hn
  clear hn
  go_enter Try.func84, Try.ntmps84
  go_wp2
  go_ret3
  exact ⟨rfl, rfl⟩

theorem OwnO.weaken {w : World} {B C : Nat} {v : Value} {l : List Do.Oc} (h : OwnO w B v l) (hc : C ≤ B) : OwnO w C v l := by
  refine ⟨h.1, ?_⟩
  rcases h.2 with hn | ⟨g1, cap, cur, e, hB, rest⟩
  · exact .inl hn
  · exact .inr ⟨g1, cap, cur, e, Nat.le_trans hc hB, rest⟩
theorem before_eq (o : Do.Oc) (i t : Int) : Do.before o i t = (decide ((o.id : Int) < i) || ((o.id : Int) == i && decide ((o.at' : Int) < t))) := rfl

theorem oc_apart {w : World} {B C g : Nat} {v1 v2 : Value} {n1 n2 : Nat} {x1 x2 : List Value} (_h1 : w.ownsRow B 77 2 v1 n1 x1) (h2 : w.ownsRow C 77 2 v2 n2 x2) (hg : v1.ownBlock = some g) (hlt : g < C) : v1.ownBlock ≠ v2.ownBlock := by
  intro e
  rw [hg] at e
  have := (World.ownsRow.lt h2 g e.symm).1
  omega
/-- one occurrence more on a page, the whole list beside it, below -/
theorem page_step {w w1 w0 : World} {B C g cap : Nat} {v v' : Value} {m l : List Do.Oc} {b : Do.Oc} {o : Obj} {n : Nat} (hf : OwnO w C (.slice (some ⟨g, 0, none⟩) n cap) l) (hgB : g < B) (hu : OwnO w B v m) (hbl : Below B w0 w) (hB : B ≤ w.heap.size)
    (h1 : w1.ownsRow B 77 2 v' (m.length + 1) (OC m ++ OC1 b)) (h2 : (w.alloc o).grownBy w1 v.ownBlock) : OwnO w1 C (.slice (some ⟨g, 0, none⟩) n cap) l ∧ OwnO w1 B v' (m ++ [b]) ∧ Below B w0 w1 := by
  have hf' : OwnO (w.alloc o) C (.slice (some ⟨g, 0, none⟩) n cap) l := World.ownsRow.alloc hf o
  have hu' : OwnO (w.alloc o) B v m := World.ownsRow.alloc hu o
  refine ⟨World.ownsRow.kept hf' h2 (.inr (oc_apart hf' hu' rfl hgB)), ?_, (hbl.alloc hB o).grown h2 (by simp; omega) (fun k hk => (World.ownsRow.lt hu k hk).1)⟩
  unfold OwnO
  rw [OC_append, List.length_append]
  have : OC [b] = OC1 b := by simp [OC]
  rw [this]; exact h1

set_option maxHeartbeats 4000000 in
theorem rLocate_ok (r : Nat) (a b : Int) (p : Nat) (cs : List Do.Chg) (s : ByteArray) (i t : Int) (w : World) (hl : cs.length ≤ 2000000000000) (hth : (Do.there cs).length ≤ 1000) (hd : ∀ c ∈ cs, c.doc.size ≤ 40) (h : IdxAt w r a b (p : Int) cs) (hp : p ≤ 8) (hs : 1 ≤ s.size ∧ s.size ≤ 16) :
    Calls Try.prog 84 #[.pointer (some ⟨r, 0, none⟩), .string s, .int .i64 (cs.length : Int), .int .i64 i, .int .i64 t] w fun e w' => ∃ v, e = .returned (.tuple #[v, .bool (Do.page (Do.hits (Do.there cs) s.data.toList) i t p).2, .int .i64 0]) ∧ OwnO w' w.heap.size v (Do.page (Do.hits (Do.there cs) s.data.toList) i t p).1 ∧ Below w.heap.size w w' := by
  obtain ⟨i0, hi, hz0, hz1, hz2⟩ := info_parts Try.info77
  obtain ⟨hs1, hs2⟩ := hs
  have HD : Hid (∀ c ∈ cs, c.doc.size ≤ 40) := hd
  have hhl : (Do.hits (Do.there cs) s.data.toList).length ≤ 40000 := by
    have h1 := Do.hitsTo_len (Do.there cs) s.data.toList (fun c hc => hd c (there_mem cs _ c hc)) (Do.there cs).length
    show (Do.hitsTo _ _ _).length ≤ _
    omega
  clear hd
  obtain ⟨v, h1, h2⟩ := h
  obtain ⟨ao, capv, rfl⟩ := h2.shape2
  have c3 := h1.c3
  have hnb : ((cs.length : Int) != (cs.length : Int)) = false := by simp
  obtain ⟨L, hL⟩ : ∃ L, Do.hits (Do.there cs) s.data.toList = L := ⟨_, rfl⟩
  have HTH : Hid (Do.hits (Do.there cs) s.data.toList = L) := hL
  rw [hL] at hhl
  rw [hL]
  clear hL
  go_enter Try.func84, Try.ntmps84
  go_wp2_with fail
  refine (hits_any r a b p cs s _ hl hth HD.out ⟨_, h1, h2⟩ (by omega)).mono ?_
  rintro e w1 ⟨u, rfl, hu, hb1⟩
  rw [HTH.out] at hu
  have hr1 := h1.below hb1
  clear HTH c3 h1 h2
  rcases hu.shape with ⟨rfl, rfl⟩ | ⟨g, cap, rfl, hg1, hg2⟩
  · go_wp2
    refine wp_loop_rounds 1 ?_
    rw [rounds_succ]
    go_wp2
    go_ret3
    exact ⟨_, rfl, World.ownsRow_nil _ _ _ _, hb1⟩
  · have hz1' := hb1.size
    go_wp2
    go_loopw [14, 15, 16] (fun v q i' wr => ∃ k : Nat, k ≤ L.length ∧ i' = .int .i64 k ∧ q = .bool (Do.pageTo L i t p k).2 ∧ OwnO wr w1.heap.size v (Do.pageTo L i t p k).1 ∧ OwnO wr w.heap.size (.slice (some ⟨g, 0, none⟩) L.length cap) L ∧ Below w1.heap.size w1 wr) (fun _ _ i' _ => L.length - (intOf i').toNat)
    case atStart => exact ⟨0, Nat.zero_le _, rfl, rfl, World.ownsRow_nil _ _ _ _, hu, Below.refl _ _⟩
    case round =>
      obtain ⟨k, hk, rfl, rfl, ho, hc, hb⟩ := hrel
      clear hu
      have hpl := Do.pageTo_len L i t p k
      obtain ⟨av, capo, rfl⟩ := ho.shape2
      have c2 := (hr1.below hb).c2
      by_cases hlt : k < L.length
      · obtain ⟨o, hok⟩ : ∃ o, L[k]? = some o := ⟨L[k], List.getElem?_eq_getElem hlt⟩
        obtain ⟨x0, x1⟩ := hc.cell rfl k o hok
        have HO : Hid (L[k]? = some o) := hok
        clear hok
        obtain ⟨M, hM⟩ : ∃ M, Do.pageTo L i t p k = M := ⟨_, rfl⟩
        have HM : Hid (Do.pageTo L i t p k = M) := hM
        rw [hM] at hpl ho
        rw [hM]
        clear hM
        obtain ⟨ml, mb⟩ := M
        dsimp only at *
        by_cases q1 : (o.id : Int) < i
        · have HB : Hid (Do.before o i t = true) := by show Do.before o i t = true; rw [before_eq]; simp [q1]
          have HN : Hid (Do.pageTo L i t p (k + 1) = (ml, mb)) := by show Do.pageTo L i t p (k + 1) = (ml, mb); rw [Do.pageTo_skip L i t p k o HO.out HB.out, HM.out]
          skip
          go_wp2
          go_roundw
          case rel => exact ⟨k + 1, by omega, by go_num, by rw [HN.out], by rw [HN.out]; exact ho, hc, hb⟩
          case measure => simp [intOf]; omega
        · have d1 : decide ((o.id : Int) < i) = false := by rw [decide_eq_false_iff_not]; exact q1
          by_cases q2 : (o.id : Int) = i
          · have d2 : ((o.id : Int) == i) = true := by rw [beq_iff_eq]; exact q2
            by_cases q3 : (o.at' : Int) < t
            · have HB : Hid (Do.before o i t = true) := by show Do.before o i t = true; rw [before_eq]; simp [d1, d2, q3]
              have HN : Hid (Do.pageTo L i t p (k + 1) = (ml, mb)) := by show Do.pageTo L i t p (k + 1) = (ml, mb); rw [Do.pageTo_skip L i t p k o HO.out HB.out, HM.out]
              clear q2
              go_wp2
              go_roundw
              case rel => exact ⟨k + 1, by omega, by go_num, by rw [HN.out], by rw [HN.out]; exact ho, hc, hb⟩
              case measure => simp [intOf]; omega
            · have d3 : decide ((o.at' : Int) < t) = false := by rw [decide_eq_false_iff_not]; exact q3
              have HB : Hid (Do.before o i t = false) := by show Do.before o i t = false; rw [before_eq]; simp [d1, d2, d3]
              clear q2
              by_cases hm : ml.length = p
              · have HN : Hid (Do.pageTo L i t p (k + 1) = (ml, true)) := by show Do.pageTo L i t p (k + 1) = (ml, true); rw [Do.pageTo_more L i t p k o HO.out HB.out (by rw [HM.out]; exact hm), HM.out]
                have hm1 : ((ml.length : Int) == (p : Int)) = true := by rw [beq_iff_eq]; omega
                clear hm
                go_wp2
                go_roundw
                case rel => exact ⟨k + 1, by omega, by go_num, by rw [HN.out], by rw [HN.out]; exact ho, hc, hb⟩
                case measure => simp [intOf]; omega
              · have HN : Hid (Do.pageTo L i t p (k + 1) = (ml ++ [o], mb)) := by show Do.pageTo L i t p (k + 1) = (ml ++ [o], mb); rw [Do.pageTo_put L i t p k o HO.out HB.out (by rw [HM.out]; exact hm), HM.out]
                have hm1 : ((ml.length : Int) == (p : Int)) = false := by rw [beq_eq_false_iff_ne]; omega
                clear hm
                go_wp2_with (at_builtin; refine wpList_append_own _ rfl _ _ 66 rfl w1.heap.size 77 i0 (.agg #[.int .i64 0, .int .i64 0]) 2 16 Try.underlying66 hi hz0 hz1 hz2 rfl (by decide) _ _ _ rfl (World.ownsRow.alloc ho _) ⟨wr.heap.size, 0, none⟩ 1 1 (OC1 o) rfl rfl (World.news_of_block (cs := #[.int .i64 (o.id : Int), .int .i64 (o.at' : Int)]) (heap_alloc_new wr _)) (by intro u hu2; simp [OC1] at hu2; rcases hu2 with rfl | rfl <;> rfl) (by unfold maxLen; omega) (by omega) (by have := hb.size; simp; omega) ?_; intro v' w3 hown3 hgrow3 _)
                have R := page_step hc hg2 ho hb hb.size hown3 hgrow3
                clear hown3 hgrow3 ho hb hc
                go_wp2
                go_roundw
                case rel => exact ⟨k + 1, by omega, by go_num, by rw [HN.out], by rw [HN.out]; exact R.2.1, R.1, R.2.2⟩
                case measure => simp [intOf]; omega
          · have d2 : ((o.id : Int) == i) = false := by rw [beq_eq_false_iff_ne]; exact q2
            have HB : Hid (Do.before o i t = false) := by show Do.before o i t = false; rw [before_eq]; simp [d1, d2]
            clear q2
            by_cases hm : ml.length = p
            · have HN : Hid (Do.pageTo L i t p (k + 1) = (ml, true)) := by show Do.pageTo L i t p (k + 1) = (ml, true); rw [Do.pageTo_more L i t p k o HO.out HB.out (by rw [HM.out]; exact hm), HM.out]
              have hm1 : ((ml.length : Int) == (p : Int)) = true := by rw [beq_iff_eq]; omega
              clear hm
              go_wp2
              go_roundw
              case rel => exact ⟨k + 1, by omega, by go_num, by rw [HN.out], by rw [HN.out]; exact ho, hc, hb⟩
              case measure => simp [intOf]; omega
            · have HN : Hid (Do.pageTo L i t p (k + 1) = (ml ++ [o], mb)) := by show Do.pageTo L i t p (k + 1) = (ml ++ [o], mb); rw [Do.pageTo_put L i t p k o HO.out HB.out (by rw [HM.out]; exact hm), HM.out]
              have hm1 : ((ml.length : Int) == (p : Int)) = false := by rw [beq_eq_false_iff_ne]; omega
              clear hm
              go_wp2_with (at_builtin; refine wpList_append_own _ rfl _ _ 66 rfl w1.heap.size 77 i0 (.agg #[.int .i64 0, .int .i64 0]) 2 16 Try.underlying66 hi hz0 hz1 hz2 rfl (by decide) _ _ _ rfl (World.ownsRow.alloc ho _) ⟨wr.heap.size, 0, none⟩ 1 1 (OC1 o) rfl rfl (World.news_of_block (cs := #[.int .i64 (o.id : Int), .int .i64 (o.at' : Int)]) (heap_alloc_new wr _)) (by intro u hu2; simp [OC1] at hu2; rcases hu2 with rfl | rfl <;> rfl) (by unfold maxLen; omega) (by omega) (by have := hb.size; simp; omega) ?_; intro v' w3 hown3 hgrow3 _)
              have R := page_step hc hg2 ho hb hb.size hown3 hgrow3
              clear hown3 hgrow3 ho hb hc
              go_wp2
              go_roundw
              case rel => exact ⟨k + 1, by omega, by go_num, by rw [HN.out], by rw [HN.out]; exact R.2.1, R.1, R.2.2⟩
              case measure => simp [intOf]; omega
      · have hke : k = L.length := by omega
        subst hke
        go_wp2
        go_ret3
        exact ⟨_, rfl, ho.weaken (by omega), hb1.trans (hb.mono (by omega))⟩

end Go.Proofs.Ytpikkedeoebiaaa
