/- Walks over the document's index: List, New. -/
import Derived.Test.YtpikkedeoebiaaaRefD
namespace Go.Proofs.Ytpikkedeoebiaaa
open Go.RowKit
set_option maxRecDepth 100000

theorem OwnV.shape2 {w : World} {B : Nat} {v : Value} {l : List Nat} (h : OwnV w B v l) : ∃ ao cap, v = .slice ao l.length cap := by
  rcases h.2 with ⟨rfl, h0⟩ | ⟨g, cap, cur, rfl, _⟩
  · exact ⟨none, 0, by rw [h0]⟩
  · exact ⟨_, cap, rfl⟩
theorem kinds_apartC {w : World} {B C : Nat} {v1 v2 : Value} {n1 n2 : Nat} {x1 x2 : List Value} (h1 : w.ownsRow B 147 3 v1 n1 x1) (h2 : w.ownsRow C 3 1 v2 n2 x2) : v1.ownBlock = none ∨ v1.ownBlock ≠ v2.ownBlock := by
  rcases h1.2 with ⟨e1, _⟩ | ⟨g1, cap1, cur1, e1, _, hg1, _⟩
  · left; rw [e1]; rfl
  · right
    rcases h2.2 with ⟨e2, _⟩ | ⟨g2, cap2, cur2, e2, _, hg2, _⟩
    · rw [e1, e2]; simp [Value.ownBlock]
    · rw [e1, e2]
      intro e
      simp [Value.ownBlock] at e
      rw [e, hg2] at hg1
      simp at hg1
/-- one id more, a row of changes beside it -/
theorem ids_step {w w1 w0 : World} {B C : Nat} {v v' f : Value} {m : List Nat} {cs : List Do.Chg} {b : Nat} {o : Obj} (hf : OwnC w C f cs) (hu : OwnV w B v m) (hbl : Below B w0 w) (hB : B ≤ w.heap.size)
    (h1 : w1.ownsRow B 3 1 v' (m.length + 1) (I m ++ [.int .i64 (b : Int)])) (h2 : (w.alloc o).grownBy w1 v.ownBlock) : OwnC w1 C f cs ∧ OwnV w1 B v' (m ++ [b]) ∧ Below B w0 w1 := by
  have hf' : OwnC (w.alloc o) C f cs := World.ownsRow.alloc hf o
  have hu' : OwnV (w.alloc o) B v m := World.ownsRow.alloc hu o
  refine ⟨World.ownsRow.kept hf' h2 (kinds_apartC hf' hu'), ?_, (hbl.alloc hB o).grown h2 (by simp; omega) (fun k hk => (World.ownsRow.lt hu k hk).1)⟩
  rw [I_append] at h1
  unfold OwnV
  simpa using h1

set_option maxHeartbeats 400000 in
theorem rList_arg (r : Nat) (t n : Int) (w : World) (h : n < 1 ∨ 8 < n) :
    Calls Try.prog 81 #[.pointer (some ⟨r, 0, none⟩), .int .i64 t, .int .i64 n] w fun e w' => e = .returned (.tuple #[.slice none 0 0, .int .i64 9]) ∧ w' = w := by
  rcases h with h | h
  · go_enter Try.func81, Try.ntmps81
    go_wp2
    go_ret2
    exact ⟨rfl, rfl⟩
  · have h0 : ¬ n < 1 := by omega
    go_enter Try.func81, Try.ntmps81
    go_wp2
    go_ret2
    exact ⟨rfl, rfl⟩

set_option maxHeartbeats 2000000 in
theorem rList_ok (r : Nat) (a b p : Int) (cs : List Do.Chg) (t : Int) (n : Nat) (w : World) (hl : cs.length ≤ 2000000000000) (h : IdxAt w r a b p cs) (hn : 1 ≤ n ∧ n ≤ 8) :
    Calls Try.prog 81 #[.pointer (some ⟨r, 0, none⟩), .int .i64 t, .int .i64 (n : Int)] w fun e w' => ∃ v, e = .returned (.tuple #[v, .int .i64 0]) ∧ OwnV w' w.heap.size v (Do.ids (Do.there cs) t n) ∧ Below w.heap.size w w' := by
  obtain ⟨i0, hi, hz0, hz1, hz2⟩ := info_parts Try.info3
  have hlen : (Do.there cs).length ≤ cs.length := Do.thereTo_len cs cs.length
  obtain ⟨L, hL⟩ : ∃ L, Do.there cs = L := ⟨_, rfl⟩
  have HTH : Hid (Do.there cs = L) := hL
  rw [hL] at hlen
  rw [hL]
  clear hL
  have hn1 : decide ((n : Int) < 1) = false := by rw [decide_eq_false_iff_not]; omega
  have hn8 : decide ((8 : Int) < (n : Int)) = false := by rw [decide_eq_false_iff_not]; omega
  obtain ⟨hna, hnb⟩ := hn
  go_enter Try.func81, Try.ntmps81
  go_wp2_with fail
  refine (there_any r a b p cs _ hl h).mono ?_
  rintro e w1 ⟨u, rfl, hu, hb1⟩
  rw [HTH.out] at hu
  clear HTH h
  rcases hu.shape with ⟨rfl, rfl⟩ | ⟨g, cap, rfl, _, _⟩
  · go_wp2
    refine wp_loop_rounds 1 ?_
    rw [rounds_succ]
    go_wp2
    go_ret2
    exact ⟨_, rfl, World.ownsRow_nil _ _ _ _, hb1⟩
  · go_wp2
    go_loopw [9, 10] (fun v i wr => ∃ k : Nat, k ≤ L.length ∧ i = .int .i64 k ∧ OwnV wr w.heap.size v (Do.idsTo L t n k) ∧ OwnC wr w.heap.size (.slice (some ⟨g, 0, none⟩) L.length cap) L ∧ Below w.heap.size w wr) (fun _ i _ => L.length - (intOf i).toNat)
    case atStart => exact ⟨0, Nat.zero_le _, rfl, World.ownsRow_nil _ _ _ _, hu, hb1⟩
    case round =>
      obtain ⟨k, hk, rfl, ho, hc, hb⟩ := hrel
      clear hu hb1
      have hil := Do.idsTo_len L t n k
      obtain ⟨ao, capo, rfl⟩ := ho.shape2
      by_cases hlt : k < L.length
      · obtain ⟨c, hck⟩ : ∃ c, L[k]? = some c := ⟨L[k], List.getElem?_eq_getElem hlt⟩
        obtain ⟨_, _, x2⟩ := hc.cell rfl k c hck
        have HC : Hid (L[k]? = some c) := hck
        clear hck
        obtain ⟨M, hM⟩ : ∃ M, Do.idsTo L t n k = M := ⟨_, rfl⟩
        have HM : Hid (Do.idsTo L t n k = M) := hM
        rw [hM] at hil ho
        rw [hM]
        clear hM
        by_cases h1 : t < (c.id : Int)
        · by_cases h2 : M.length < n
          · have h2i : (M.length : Int) < (n : Int) := by omega
            go_wp2_with (at_builtin; refine wpList_append_own _ rfl _ _ 26 rfl w.heap.size 3 i0 (.int .i64 0) 1 8 Try.underlying26 hi hz0 hz1 hz2 rfl (by decide) _ _ _ rfl (World.ownsRow.alloc ho _) ⟨wr.heap.size, 0, none⟩ 1 1 [.int .i64 (c.id : Int)] rfl rfl (cell_one_new _ _ _) (by intro u hu2; simp at hu2; subst hu2; rfl) (by unfold maxLen; omega) (by omega) (by have := hb.size; simp; omega) ?_; intro v' w3 hown3 hgrow3 _)
            have R := ids_step hc ho hb hb.size hown3 hgrow3
            clear hown3 hgrow3 ho hb hc
            go_wp2
            go_roundw
            case rel => exact ⟨k + 1, by omega, by go_num, by rw [Do.idsTo_hit L t n k c HC.out h1 (by rw [HM.out]; exact h2), HM.out]; exact R.2.1, R.1, R.2.2⟩
            case measure => simp [intOf]; omega
          · have h2i : decide ((M.length : Int) < (n : Int)) = false := by rw [decide_eq_false_iff_not]; omega
            have HMI : Hid (Do.idsTo L t n (k + 1) = M) := by show Do.idsTo L t n (k + 1) = M; rw [Do.idsTo_miss L t n k c HC.out (by rw [HM.out]; omega), HM.out]
            go_wp2
            go_roundw
            case rel => exact ⟨k + 1, by omega, by go_num, by rw [HMI.out]; exact ho, hc, hb⟩
            case measure => simp [intOf]; omega
        · have h1i : decide (t < (c.id : Int)) = false := by rw [decide_eq_false_iff_not]; omega
          have HMI : Hid (Do.idsTo L t n (k + 1) = M) := by show Do.idsTo L t n (k + 1) = M; rw [Do.idsTo_miss L t n k c HC.out (by omega), HM.out]
          go_wp2
          go_roundw
          case rel => exact ⟨k + 1, by omega, by go_num, by rw [HMI.out]; exact ho, hc, hb⟩
          case measure => simp [intOf]; omega
      · have hke : k = L.length := by omega
        subst hke
        go_wp2
        go_ret2
        exact ⟨_, rfl, ho, hb⟩

end Go.Proofs.Ytpikkedeoebiaaa
