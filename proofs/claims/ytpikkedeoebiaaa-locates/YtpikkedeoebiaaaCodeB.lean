/- Walks over the shelf: first, Hits. -/
import Derived.Test.YtpikkedeoebiaaaCodeA
namespace Go.Proofs.Ytpikkedeoebiaaa
open Go.RowKit
set_option maxRecDepth 100000

set_option maxHeartbeats 400000 in
theorem cFirst_any (c : Do.Chg) (i t : Int) (z : Nat) (w : World) (hz : Do.fst c i t = z) (hd : c.doc.size ≤ 40) :
    Calls Try.prog 76 #[.agg #[.int .i64 (c.id : Int), .string c.doc], .agg #[.int .i64 i, .int .i64 t]] w fun e w' => e = .returned (.int .i64 (z : Int)) ∧ Below w.heap.size w w' := by
  unfold Do.fst at hz
  by_cases h1 : (c.id : Int) < i
  · rw [if_pos h1] at hz
    have HZ : Hid ((c.doc.size : Int) + 1 = (z : Int)) := by show (c.doc.size : Int) + 1 = (z : Int); omega
    clear hz
    go_enter Try.func76, Try.ntmps76
    go_wp2
    go_ret
    exact ⟨ret_int HZ.out, ((Below.refl _ _).alloc (Nat.le_refl _) _).alloc (by simp) _⟩
  · rw [if_neg h1] at hz
    have d1 : decide ((c.id : Int) < i) = false := by rw [decide_eq_false_iff_not]; exact h1
    by_cases h2 : (c.id : Int) = i
    · have d2 : ((c.id : Int) == i) = true := by rw [beq_iff_eq]; exact h2
      by_cases h3 : 0 < t
      · rw [if_pos ⟨h2, h3⟩] at hz
        have HZ : Hid (t = (z : Int)) := by show t = (z : Int); omega
        have d3 : decide ((0 : Int) < t) = true := by rw [decide_eq_true_eq]; exact h3
        clear hz h2 h1
        go_enter Try.func76, Try.ntmps76
        go_wp2
        go_ret
        exact ⟨ret_int HZ.out, ((Below.refl _ _).alloc (Nat.le_refl _) _).alloc (by simp) _⟩
      · rw [if_neg (fun h => h3 h.2)] at hz
        have HZ : Hid ((0 : Int) = (z : Int)) := by show (0 : Int) = (z : Int); omega
        have d3 : decide ((0 : Int) < t) = false := by rw [decide_eq_false_iff_not]; exact h3
        clear hz h2 h1
        go_enter Try.func76, Try.ntmps76
        go_wp2
        go_ret
        exact ⟨ret_int HZ.out, ((Below.refl _ _).alloc (Nat.le_refl _) _).alloc (by simp) _⟩
    · rw [if_neg (fun h => h2 h.1)] at hz
      have HZ : Hid ((0 : Int) = (z : Int)) := by show (0 : Int) = (z : Int); omega
      have d2 : ((c.id : Int) == i) = false := by rw [beq_eq_false_iff_ne]; exact h2
      clear hz h2 h1
      go_enter Try.func76, Try.ntmps76
      go_wp2
      go_ret
      exact ⟨ret_int HZ.out, ((Below.refl _ _).alloc (Nat.le_refl _) _).alloc (by simp) _⟩

theorem oc_row_ne {w : World} {B d : Nat} {v : Value} {m : List Do.Oc} {cs : Array Value} (h : OwnO w B v m) (hd : w.heap[d]? = some (.cells cs 126 (0, 0))) : v.ownBlock ≠ some d := by
  intro e
  rcases h.2 with ⟨rfl, _⟩ | ⟨g, cap, cur, rfl, _, hg, _⟩
  · simp [Value.ownBlock] at e
  · simp [Value.ownBlock] at e
    rw [e, hd] at hg
    simp at hg
/-- one occurrence more, a document's cells beside it -/
theorem occ_step {w w1 w0 : World} {B d : Nat} {v v' : Value} {m : List Do.Oc} {b : Do.Oc} {o : Obj} {cs : Array Value} (hd : w.heap[d]? = some (.cells cs 126 (0, 0))) (hu : OwnO w B v m) (hbl : Below B w0 w) (hB : B ≤ w.heap.size)
    (h1 : w1.ownsRow B 77 2 v' (m.length + 1) (OC m ++ OC1 b)) (h2 : (w.alloc o).grownBy w1 v.ownBlock) : w1.heap[d]? = some (.cells cs 126 (0, 0)) ∧ OwnO w1 B v' (m ++ [b]) ∧ Below B w0 w1 := by
  have hdl := lt_of_block hd
  have hu' : OwnO (w.alloc o) B v m := World.ownsRow.alloc hu o
  refine ⟨?_, ?_, (hbl.alloc hB o).grown h2 (by simp; omega) (fun k hk => (World.ownsRow.lt hu k hk).1)⟩
  · rw [h2.block d (by simp; omega) (fun e => oc_row_ne hu hd e.symm), Below.heap_alloc w o d hdl]; exact hd
  · unfold OwnO
    rw [OC_append, List.length_append]
    have : OC [b] = OC1 b := by simp [OC]
    rw [this]; exact h1

set_option maxHeartbeats 2000000 in
theorem cHits_any (x : Nat) (B : Nat) (v : Value) (cs : List Do.Chg) (s : ByteArray) (i t : Int) (n : Nat) (w : World) (hl : cs.length ≤ 1000) (hd : ∀ c ∈ cs, c.doc.size ≤ 40) (hs : 1 ≤ s.size ∧ s.size ≤ 16) (hn : n ≤ 9) (h3 : w.cell? ⟨x, 3, none⟩ = some v) (h : OwnD w B v cs) :
    Calls Try.prog 58 #[.pointer (some ⟨x, 3, none⟩), .string s, .agg #[.int .i64 i, .int .i64 t], .int .i64 (n : Int)] w fun e w' => ∃ u, e = .returned u ∧ OwnO w' w.heap.size u (Do.firsts cs s.data.toList i t n cs.length) ∧ Below w.heap.size w w' := by
  obtain ⟨i0, hi, hz0, hz1, hz2⟩ := info_parts Try.info77
  obtain ⟨ao, cap, rfl, hc⟩ := h.shape2
  have hx : x < w.heap.size := World.block_lt_of_cell? w _ h3
  have HD : Hid (∀ c ∈ cs, c.doc.size ≤ 40) := hd
  have HC : Hid (∀ k c, cs[k]? = some c → ∃ g, ao = some ⟨g, 0, none⟩ ∧ w.cell? ⟨g, k * 2, none⟩ = some (.int .i64 (c.id : Int)) ∧ w.cell? ⟨g, k * 2 + 1, none⟩ = some (.string c.doc)) := hc
  have hp : Hid (s.data.toList ≠ []) := fun e => by have h1 := size_len s; rw [e] at h1; simp at h1; omega
  clear hc hd h
  have y := World.news_of_block (heap_alloc_new w (.cells #[.int .i64 i, .int .i64 t] 77))
  have p0 : (w.alloc (.cells #[.int .i64 i, .int .i64 t] 77)).cell? ⟨w.heap.size, 0, none⟩ = some (.int .i64 i) := y 0 _ rfl
  have p1 : (w.alloc (.cells #[.int .i64 i, .int .i64 t] 77)).cell? ⟨w.heap.size, 1, none⟩ = some (.int .i64 t) := y 1 _ rfl
  have hb0 : Below w.heap.size w (w.alloc (.cells #[.int .i64 i, .int .i64 t] 77)) := (Below.refl _ _).alloc (Nat.le_refl _) _
  have c3 := (hb0.cell (p := ⟨x, 3, none⟩) hx).trans h3
  have hsz : (w.alloc (.cells #[.int .i64 i, .int .i64 t] 77)).heap.size = w.heap.size + 1 := by simp
  clear y h3
  go_enter Try.func58, Try.ntmps58
  go_wp2
  generalize w.alloc (.cells #[.int .i64 i, .int .i64 t] 77) = w0 at *
  clear c3
  go_loopw [9, 18] (fun u i' wr => ∃ k : Nat, k ≤ cs.length ∧ i' = .int .i64 k ∧ OwnO wr w0.heap.size u (Do.firsts cs s.data.toList i t n k) ∧ Below w0.heap.size w0 wr) (fun _ i' _ => cs.length - (intOf i').toNat)
  case atStart => exact ⟨0, Nat.zero_le _, rfl, by rw [Do.firsts_zero]; exact World.ownsRow_nil _ _ _ _, Below.refl _ _⟩
  case round =>
    obtain ⟨k, hk, rfl, ho, hb⟩ := hrel
    have hq0 := (hb.cell (p := ⟨w.heap.size, 0, none⟩) (by show w.heap.size < w0.heap.size; omega)).trans p0
    have hq1 := (hb.cell (p := ⟨w.heap.size, 1, none⟩) (by show w.heap.size < w0.heap.size; omega)).trans p1
    have hfl := Do.firsts_len cs s.data.toList i t n k
    by_cases hlt : k < cs.length
    · obtain ⟨c, hck⟩ : ∃ c, cs[k]? = some c := ⟨cs[k], List.getElem?_eq_getElem hlt⟩
      obtain ⟨g, rfl, x0, x1⟩ := HC.out k c hck
      have hg : g < w.heap.size := World.block_lt_of_cell? w _ x0
      have hbw := hb0.trans (hb.mono (by omega))
      have y0 := (hbw.cell (p := ⟨g, k * 2, none⟩) hg).trans x0
      have y1 := (hbw.cell (p := ⟨g, k * 2 + 1, none⟩) hg).trans x1
      have hcd := HD.out c (List.mem_of_getElem? hck)
      obtain ⟨z, hz⟩ : ∃ z, Do.fst c i t = z := ⟨_, rfl⟩
      have HZ : Hid (Do.fst c i t = z) := hz
      have HFS : Hid (Do.firsts cs s.data.toList i t n (k + 1) = (Do.since (Do.hitsTo cs s.data.toList k ++ Do.hitsIn c s.data.toList c.doc.size) i t).take n) := Do.firsts_succ cs _ i t n k c hck
      have HST : Hid (Do.firsts cs s.data.toList i t n k = Do.some' (Do.hitsTo cs s.data.toList k) c s.data.toList i t n z) := by
        show Do.firsts cs s.data.toList i t n k = _
        rw [← hz, Do.some_start]; rfl
      rw [HST.out] at ho
      clear hck x0 x1 hz HST hfl
      generalize Do.hitsTo cs s.data.toList k = A at *
      obtain ⟨wo, hwo⟩ : ∃ wo, wo = wr := ⟨_, rfl⟩
      subst hwo
      have hblk := heap_alloc_new wo (.cells #[.int .i64 (c.id : Int), .string c.doc] 126)
      have hba : Below wo.heap.size wo (wo.alloc (.cells #[.int .i64 (c.id : Int), .string c.doc] 126)) := (Below.refl _ _).alloc (Nat.le_refl _) _
      have hbsz := hb.size
      have hqa0 := (hba.cell (p := ⟨w.heap.size, 0, none⟩) (by show w.heap.size < wo.heap.size; omega)).trans hq0
      have hqa1 := (hba.cell (p := ⟨w.heap.size, 1, none⟩) (by show w.heap.size < wo.heap.size; omega)).trans hq1
      have ho1 : OwnO (wo.alloc (.cells #[.int .i64 (c.id : Int), .string c.doc] 126)) w0.heap.size _ _ := World.ownsRow.alloc ho _
      have hb1 : Below w0.heap.size w0 (wo.alloc (.cells #[.int .i64 (c.id : Int), .string c.doc] 126)) := hb.alloc hb.size _
      go_wp2_with fail
      generalize wo.alloc (.cells #[.int .i64 (c.id : Int), .string c.doc] 126) = w1 at *
      refine (cFirst_any c i t z _ HZ.out hcd).mono ?_
      rintro e w2 ⟨rfl, hb2⟩
      have hblk2 := (hb2.block _ (lt_of_block hblk)).trans hblk
      have ho2 := row_below ho1 hb2
      have hb3 : Below w0.heap.size w0 w2 := hb1.trans (hb2.mono hb1.size)
      clear ho ho1 hb1 hb2 hblk hba hq0 hq1 y0 y1 hb hbw p0 p1 hqa0 hqa1
      have s2 := hb3.size
      go_wp2_with fail
      go_loopw [9, 12] (fun u a wr => ∃ j : Nat, z ≤ j ∧ a = .int .i64 j ∧ OwnO wr w0.heap.size u (Do.some' A c s.data.toList i t n j) ∧ wr.heap[wo.heap.size]? = some (.cells #[.int .i64 (c.id : Int), .string c.doc] 126 (0, 0)) ∧ Below w0.heap.size w0 wr) (fun _ a _ => c.doc.size + 1 - (intOf a).toNat)
      case atStart => exact ⟨z, Nat.le_refl _, rfl, ho2, hblk2, hb3⟩
      case round =>
        obtain ⟨j, hj, rfl, ho, hblk, hb⟩ := hrel
        clear ho2 hblk2 hb3
        have e0 : wr.cell? ⟨wo.heap.size, 0, none⟩ = some (.int .i64 (c.id : Int)) := by rw [cell_of_row wr _ 0 _ 126 (0, 0) hblk]; rfl
        have e1 : wr.cell? ⟨wo.heap.size, 1, none⟩ = some (.string c.doc) := by rw [cell_of_row wr _ 1 _ 126 (0, 0) hblk]; rfl
        have hml := Do.some_len A c s.data.toList i t n j
        obtain ⟨av, capo, rfl⟩ := ho.shape2
        have HOV : Hid (c.doc.size < j ∨ n ≤ (Do.some' A c s.data.toList i t n j).length → Do.some' A c s.data.toList i t n j = Do.firsts cs s.data.toList i t n (k + 1)) := by
          intro h
          rw [HFS.out]
          rcases h with h | h
          · exact Do.some_over A c _ hp.out i t n j (by omega)
          · exact Do.some_full A c _ hp.out i t n j h
        by_cases h1 : j ≤ c.doc.size
        · have d1 : decide ((j : Int) ≤ (c.doc.size : Int)) = true := by rw [decide_eq_true_eq]; omega
          by_cases h2 : (Do.some' A c s.data.toList i t n j).length < n
          · have d2 : decide (((Do.some' A c s.data.toList i t n j).length : Int) < (n : Int)) = true := by rw [decide_eq_true_eq]; omega
            have HHI : Hid (Fo.pre c.doc.data.toList s.data.toList j = true → Do.some' A c s.data.toList i t n (j + 1) = Do.some' A c s.data.toList i t n j ++ [⟨c.id, j⟩]) := fun h => Do.some_hit A c _ i t n j h (by rw [HZ.out]; exact hj) h1 h2
            have HMI : Hid (Fo.pre c.doc.data.toList s.data.toList j = false → Do.some' A c s.data.toList i t n (j + 1) = Do.some' A c s.data.toList i t n j) := Do.some_miss A c _ i t n j
            obtain ⟨q, hq⟩ : ∃ q, Fo.pre c.doc.data.toList s.data.toList j = q := ⟨_, rfl⟩
            have HST : Hid (∀ w, Calls Try.prog 77 #[.string c.doc, .string s, .int .i64 (j : Int)] w fun e w' => e = .returned (.bool q) ∧ w' = w) := fun w => stands_at c.doc s j q hq w (by omega) h1 (by omega)
            rw [hq] at HHI HMI
            clear hq HOV HFS HZ
            generalize Do.some' A c s.data.toList i t n j = M at *
            cases q
            · have HN := HMI.out rfl
              clear HMI HHI
              go_wp2_with fail
              refine (HST.out _).mono ?_
              rintro e w5 ⟨rfl, hw5⟩; rw [hw5]; clear hw5
              go_wp2_with fail
              go_roundw
              case rel => exact ⟨j + 1, by omega, by go_num, by rw [HN]; exact ho, hblk, hb⟩
              case measure => simp [intOf]; omega
            · have HN := HHI.out rfl
              clear HMI HHI
              go_wp2_with fail
              refine (HST.out _).mono ?_
              rintro e w5 ⟨rfl, hw5⟩; rw [hw5]; clear hw5
              go_wp2_with (at_builtin; refine wpList_append_own _ rfl _ _ 66 rfl w0.heap.size 77 i0 (.agg #[.int .i64 0, .int .i64 0]) 2 16 Try.underlying66 hi hz0 hz1 hz2 rfl (by decide) _ _ _ rfl (World.ownsRow.alloc ho _) ⟨wr.heap.size, 0, none⟩ 1 1 (OC1 ⟨c.id, j⟩) rfl rfl (World.news_of_block (cs := #[.int .i64 (c.id : Int), .int .i64 (j : Int)]) (heap_alloc_new wr _)) (by intro u hu2; simp [OC1] at hu2; rcases hu2 with rfl | rfl <;> rfl) (by unfold maxLen; omega) (by omega) (by have := hb.size; simp; omega) ?_; intro v' w3 hown3 hgrow3 _)
              have R := occ_step hblk ho hb hb.size hown3 hgrow3
              clear hown3 hgrow3 ho hb hblk
              go_wp2
              go_roundw
              case rel => exact ⟨j + 1, by omega, by go_num, by rw [HN]; exact R.2.1, R.1, R.2.2⟩
              case measure => simp [intOf]; omega
          · have d2 : decide (((Do.some' A c s.data.toList i t n j).length : Int) < (n : Int)) = false := by rw [decide_eq_false_iff_not]; omega
            have HN := HOV.out (.inr (by omega))
            rw [HN] at ho
            clear HOV
            generalize Do.some' A c s.data.toList i t n j = M at *
            subst HN
            go_wp2
            go_roundw
            case rel => exact ⟨k + 1, by omega, by go_num, ho, hb⟩
            case measure => simp [intOf]; omega
        · have d1 : decide ((j : Int) ≤ (c.doc.size : Int)) = false := by rw [decide_eq_false_iff_not]; omega
          have HN := HOV.out (.inl (by omega))
          rw [HN] at ho
          clear HOV
          generalize Do.some' A c s.data.toList i t n j = M at *
          subst HN
          go_wp2
          go_roundw
          case rel => exact ⟨k + 1, by omega, by go_num, ho, hb⟩
          case measure => simp [intOf]; omega
    · have hke : k = cs.length := by omega
      subst hke
      go_wp2
      go_ret
      exact ⟨_, rfl, ho.weaken (by omega), hb0.trans (hb.mono (by omega))⟩

end Go.Proofs.Ytpikkedeoebiaaa
