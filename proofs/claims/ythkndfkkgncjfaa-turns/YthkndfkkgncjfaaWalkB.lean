/- Walks: suffix.Order, folioref.order. -/
import Derived.Test.YthkndfkkgncjfaaWalkA
namespace Go.Proofs.Ythkndfkkgncjfaa
open Go.RowKit
set_option maxRecDepth 100000

theorem Try.info3 : (Try.prog.info? 3).map (fun i => (i.zero, i.size, i.bytes)) = some (some (.int .i64 0), 1, 8) := by kernel_rfl
theorem Try.info5 : (Try.prog.info? 5).map (fun i => (i.zero, i.size, i.bytes)) = some (some (.int .u8 0), 1, 1) := by kernel_rfl

/-- numbers as cells -/
def I (l : List Nat) : List Value := l.map fun (n : Nat) => Value.int .i64 (n : Int)
theorem I_length (l : List Nat) : (I l).length = l.length := by simp [I]
theorem I_set (l : List Nat) (j x : Nat) : (I l).set j (.int .i64 (x : Int)) = I (l.set j x) := by simp [I, List.map_set]
theorem I_get (l : List Nat) (j : Nat) (h : j < l.length) : (I l)[j]? = some (.int .i64 (l.getD j 0 : Nat)) := by simp [I, h]

/-- the slice at the head of block g holds the numbers l, and no more -/
def OwnI (w : World) (B g : Nat) (l : List Nat) : Prop := w.ownsRow B 3 1 (.slice (some ⟨g, 0, none⟩) l.length l.length) l.length (I l)

theorem OwnI.cell {w : World} {B g : Nat} {l : List Nat} (h : OwnI w B g l) (j : Nat) (hj : j < l.length) : w.cell? ⟨g, j, none⟩ = some (.int .i64 (l.getD j 0 : Nat)) := by
  rw [World.ownsRow.cellAt h j (by omega), I_get l j hj]
theorem OwnI.free {w : World} {B g : Nat} {l : List Nat} (h : OwnI w B g l) (j : Nat) : w.frozen? ⟨g, j, none⟩ = false := World.ownsRow.frozenAt h j
theorem OwnI.base {w : World} {B g : Nat} {l : List Nat} (h : OwnI w B g l) : B ≤ g ∧ g < w.heap.size := World.ownsRow.lt h g rfl
theorem OwnI.put {w : World} {B g : Nat} {l : List Nat} (h : OwnI w B g l) (j x : Nat) : OwnI (w.setCell ⟨g, j, none⟩ (.int .i64 (x : Int))) B g (l.set j x) := by
  have := (World.ownsRow.stored h j (.int .i64 (x : Int))).1
  rw [I_set] at this
  unfold OwnI
  rw [List.length_set]
  exact this
theorem row_below {w w' : World} {B : Nat} {e : TypeId} {size : Nat} {v : Value} {n : Nat} {xs : List Value} (h : w.ownsRow B e size v n xs) (hb : Below w.heap.size w w') : w'.ownsRow B e size v n xs := by
  refine ⟨h.1, ?_⟩
  rcases h.2 with hn | ⟨g, cap, cur, rfl, hB, hg, rest⟩
  · exact .inl hn
  · exact .inr ⟨g, cap, cur, rfl, hB, by rw [hb.block g (Array.getElem?_eq_some_iff.1 hg).1]; exact hg, rest⟩
theorem OwnI.weaken {w : World} {B C g : Nat} {l : List Nat} (h : OwnI w B g l) (hc : C ≤ B) : OwnI w C g l := by
  refine ⟨h.1, ?_⟩
  rcases h.2 with hn | ⟨g1, cap, cur, e, hB, rest⟩
  · exact .inl hn
  · exact .inr ⟨g1, cap, cur, e, Nat.le_trans hc hB, rest⟩
theorem OwnI.below {w w' : World} {B g : Nat} {l : List Nat} (h : OwnI w B g l) (hb : Below w.heap.size w w') : OwnI w' B g l := row_below h hb

theorem made_zero {w : World} {B g n : Nat} (h : w.ownsRow B 3 1 (.slice (some ⟨g, 0, none⟩) n n) n (madeCells (Value.int .i64 0).cells (n * 1)).toList) : OwnI w B g (List.replicate n 0) := by
  have e : (madeCells (Value.int .i64 0).cells (n * 1)).toList = I (List.replicate n 0) := by
    rw [Nat.mul_one]
    show (madeCells #[Value.int .i64 0] n).toList = _
    rw [toList_madeCells_one]; simp [I]
  unfold OwnI
  rw [List.length_replicate, ← e]; exact h

set_option maxHeartbeats 400000 in
theorem order_any (s : ByteArray) (w : World) (hs : s.size ≤ 1000000) :
    Calls Try.prog 44 #[.string s] w fun e w' => ∃ g, e = .returned (.slice (some ⟨g, 0, none⟩) (s.size + 1) (s.size + 1)) ∧ OwnI w' w.heap.size g (Fo.ord s.data.toList) ∧ Below w.heap.size w w' := by
  obtain ⟨i0, hi, hz0, hz1, hz2⟩ := info_parts Try.info3
  go_enter Try.func44, Try.ntmps44
  go_wp2_with (at_make; refine wpList_make_full _ rfl _ _ 26 rfl w.heap.size 3 i0 (.int .i64 0) 1 Try.underlying26 hi hz0 hz1 .i64 .i64 _ _ (s.size + 1) rfl rfl (by omega) (by omega) (by rw [hz2]; omega) (by unfold maxLen; omega) (Nat.le_refl _) ?_; intro w0 hown0 hgrow0)
  go_loopw [4] (fun i wr => ∃ k : Nat, k ≤ s.size + 1 ∧ i = .int .i64 k ∧ OwnI wr w.heap.size w.heap.size (Fo.ordTo s.data.toList k) ∧ Below w.heap.size w wr) (fun i _ => s.size + 1 - (intOf i).toNat)
  case atStart => exact ⟨0, Nat.zero_le _, rfl, made_zero hown0, (Below.refl _ _).grown hgrow0 (Nat.le_refl _) (by simp)⟩
  case round =>
    obtain ⟨k, hk, rfl, hown, hbl⟩ := hrel
    clear hown0 hgrow0
    have hl : (Fo.ordTo s.data.toList k).length = s.size + 1 := Fo.ordTo_length _ _
    by_cases hlt : k ≤ s.size
    · obtain ⟨r, hr⟩ : ∃ r, Fo.rank s.data.toList k = r := ⟨_, rfl⟩
      have hrl : r < s.size + 1 := by rw [← hr]; exact Fo.rank_lt _ _ hlt
      have HR : Hid (Fo.rank s.data.toList k = r) := hr
      clear hr
      have hc := hown.cell r (by omega)
      have hf := hown.free r
      have hp := hown.put r k
      go_wp2_with (go_at_call 64; refine (ahead_any _ _ _ hs).mono ?_; rintro e w' ⟨he, rfl⟩; rw [Lib.extract_to_end, show Fo.ahead s.data.toList (s.data.toList.drop k) = r from HR.out] at he; subst he)
      go_roundw
      case rel => exact ⟨k + 1, by omega, by go_num, by rw [Fo.ordTo, HR.out]; exact hp, hbl.setCell (Nat.le_refl _) _⟩
      case measure => simp [intOf]; omega
    · go_wp2
      go_ret
      have e : k = s.size + 1 := by omega
      exact ⟨_, rfl, by rw [e] at hown; exact hown, hbl⟩

theorem ext_le (s : ByteArray) (j : Nat) (hs : s.size ≤ 1000000) : (s.extract j s.size).size ≤ 9223372036854775807 := by
  rw [ByteArray.size_extract]; omega
theorem less_at (a b : ByteArray) (q : Bool) (h : Op.bytesLess a.data.toList b.data.toList = q) (w : World) (hsa : a.size ≤ 9223372036854775807) (hsb : b.size ≤ 9223372036854775807) :
    Calls Try.prog 63 #[.string a, .string b] w fun e w' => e = .returned (.bool q) ∧ ∃ m, w' = w.drewN m := by
  rw [← h]; exact less_any a b w hsa hsb

theorem aheadTo_succ' (t : List UInt8) (i k : Nat) : Fo.aheadTo t (t.drop i) (k + 1) = Fo.aheadTo t (t.drop i) k + (if Op.bytesLess (t.drop k) (t.drop i) then 1 else 0) := rfl

set_option maxHeartbeats 1000000 in
theorem ref_order_any (s : ByteArray) (w : World) (hs : s.size ≤ 1000000) :
    Calls Try.prog 59 #[.string s] w fun e w' => ∃ g, e = .returned (.slice (some ⟨g, 0, none⟩) (s.size + 1) (s.size + 1)) ∧ OwnI w' w.heap.size g (Fo.ord s.data.toList) ∧ Below w.heap.size w w' := by
  obtain ⟨i0, hi, hz0, hz1, hz2⟩ := info_parts Try.info3
  go_enter Try.func59, Try.ntmps59
  go_wp2_with (at_make; refine wpList_make_full _ rfl _ _ 26 rfl w.heap.size 3 i0 (.int .i64 0) 1 Try.underlying26 hi hz0 hz1 .i64 .i64 _ _ (s.size + 1) rfl rfl (by omega) (by omega) (by rw [hz2]; omega) (by unfold maxLen; omega) (Nat.le_refl _) ?_; intro w0 hown0 hgrow0)
  go_loopw [5] (fun i wr => ∃ k : Nat, k ≤ s.size + 1 ∧ i = .int .i64 k ∧ OwnI wr w.heap.size w.heap.size (Fo.ordTo s.data.toList k) ∧ Below w.heap.size w wr) (fun i _ => s.size + 1 - (intOf i).toNat)
  case atStart => exact ⟨0, Nat.zero_le _, rfl, made_zero hown0, (Below.refl _ _).grown hgrow0 (Nat.le_refl _) (by simp)⟩
  case round =>
    obtain ⟨k, hk, rfl, hown, hbl⟩ := hrel
    obtain ⟨w1, hw1⟩ : ∃ w1, w1 = wr := ⟨_, rfl⟩
    subst hw1
    clear hown0 hgrow0
    have hl : (Fo.ordTo s.data.toList k).length = s.size + 1 := Fo.ordTo_length _ _
    by_cases hlt : k ≤ s.size
    · obtain ⟨r, hr⟩ : ∃ r, Fo.rank s.data.toList k = r := ⟨_, rfl⟩
      have hrl : r < s.size + 1 := by rw [← hr]; exact Fo.rank_lt _ _ hlt
      have HR : Hid (Fo.rank s.data.toList k = r) := hr
      clear hr
      go_wp2
      go_loopw [6, 7] (fun n i wr => ∃ j : Nat, j ≤ s.size + 1 ∧ i = .int .i64 j ∧ n = .int .i64 (Fo.aheadTo s.data.toList (s.data.toList.drop k) j) ∧ ∃ m, wr = w1.drewN m) (fun _ i _ => s.size + 1 - (intOf i).toNat)
      case atStart => exact ⟨0, Nat.zero_le _, rfl, rfl, 0, rfl⟩
      case round =>
        obtain ⟨j, hj, rfl, rfl, hwi⟩ := hrel
        have HW : Hid (∃ m, wr = w1.drewN m) := hwi
        clear hwi
        have hd : Fo.aheadTo s.data.toList (s.data.toList.drop k) j ≤ j := Fo.cnt_le _ _
        by_cases hjt : j ≤ s.size
        · obtain ⟨q, hq⟩ : ∃ q, Op.bytesLess (s.data.toList.drop j) (s.data.toList.drop k) = q := ⟨_, rfl⟩
          have HQ : Hid (Op.bytesLess (s.extract j s.size).data.toList (s.extract k s.size).data.toList = q) := by rw [Lib.extract_to_end, Lib.extract_to_end]; exact hq
          have HS : Hid (Fo.aheadTo s.data.toList (s.data.toList.drop k) (j + 1) = Fo.aheadTo s.data.toList (s.data.toList.drop k) j + (if q then 1 else 0)) := by have h := aheadTo_succ' s.data.toList k j; rw [hq] at h; exact h
          clear hq
          go_wp2
          go_quiet ((go_at_call 63; exact Calls.quiet_of (less_at _ _ q HQ.out _ (ext_le s j hs) (ext_le s k hs))))
          cases q
          all_goals
            go_wp2
            go_roundw
            case rel => exact ⟨j + 1, by omega, by go_num, by rw [HS.out]; simp, by obtain ⟨m, hm⟩ := HW.out; exact ⟨m + nq, by rw [hm, World.drewN_drewN]⟩⟩
            case measure => simp [intOf]; omega
        · have hje : j = s.size + 1 := by omega
          subst hje
          rw [show Fo.aheadTo s.data.toList (s.data.toList.drop k) (s.size + 1) = r from HR.out] at *
          have hown2 : OwnI wr w.heap.size w.heap.size (Fo.ordTo s.data.toList k) := by obtain ⟨m, hm⟩ := HW.out; rw [hm]; exact hown.below (below_drewN (Below.refl _ _) _)
          have hbl2 : Below w.heap.size w wr := by obtain ⟨m, hm⟩ := HW.out; rw [hm]; exact below_drewN hbl m
          have hc := hown2.cell r (by omega)
          have hf := hown2.free r
          have hp := hown2.put r k
          go_wp2
          go_roundw
          case rel => exact ⟨k + 1, by omega, by go_num, by rw [Fo.ordTo, HR.out]; exact hp, hbl2.setCell (Nat.le_refl _) _⟩
          case measure => simp [intOf]; omega
    · go_wp2
      go_ret
      have e : k = s.size + 1 := by omega
      exact ⟨_, rfl, by rw [e] at hown; exact hown, hbl⟩

end Go.Proofs.Ythkndfkkgncjfaa
