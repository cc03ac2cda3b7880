/- Walks: folioref.firsts, folioref.Unturn. -/
import Derived.Test.YthkndfkkgncjfaaWalkH
import Derived.Test.YthkndfkkgncjfaaMathD
namespace Go.Proofs.Ythkndfkkgncjfaa
open Go.RowKit
set_option maxRecDepth 100000

def OwnV (w : World) (B : Nat) (v : Value) (l : List Nat) : Prop := w.ownsRow B 3 1 v l.length (I l)
theorem OwnV.below {w w' : World} {B : Nat} {v : Value} {l : List Nat} (h : OwnV w B v l) (hb : Below w.heap.size w w') : OwnV w' B v l := row_below h hb
theorem I_append (l : List Nat) (b : Nat) : I l ++ [.int .i64 (b : Int)] = I (l ++ [b]) := by simp [I]
/-- one number more -/
theorem ints_step {w w1 w0 : World} {B : Nat} {v v' : Value} {m : List Nat} {b : Nat} {o : Obj} (hu : OwnV w B v m) (hbl : Below B w0 w) (hB : B ≤ w.heap.size)
    (h1 : w1.ownsRow B 3 1 v' (m.length + 1) (I m ++ [.int .i64 (b : Int)])) (h2 : (w.alloc o).grownBy w1 v.ownBlock) : OwnV w1 B v' (m ++ [b]) ∧ Below B w0 w1 := by
  refine ⟨?_, (hbl.alloc hB o).grown h2 (by simp; omega) (fun k hk => (World.ownsRow.lt hu k hk).1)⟩
  rw [I_append] at h1
  unfold OwnV
  simpa using h1

theorem fIn_hit (l : List UInt8) (c k : Nat) (h : (l.getD k 0).toNat = c) : Fo.fIn l c (k + 1) = Fo.fIn l c k ++ [k] := by rw [Fo.fIn, if_pos h]
theorem fIn_miss (l : List UInt8) (c k : Nat) (h : ¬ (l.getD k 0).toNat = c) : Fo.fIn l c (k + 1) = Fo.fIn l c k := by rw [Fo.fIn, if_neg h, List.append_nil]
theorem f_len (l : List UInt8) (c k : Nat) : (Fo.fTo l c ++ Fo.fIn l c k).length ≤ l.length + k := by
  rw [List.length_append, Fo.fTo_len, Fo.fIn_len]
  have h1 := Fo.cnt_le (fun i => decide ((l.getD i 0).toNat < c)) l.length
  have h2 := Fo.cnt_le (fun i => decide ((l.getD i 0).toNat = c)) k
  omega

/-- F lists the places of l's bytes, in rising order -/
structure IsF (l : List UInt8) (F : List Nat) : Prop where
  get : ∀ i, (Fo.fTo l 256).getD i 0 = F.getD i 0

set_option maxRecDepth 100000 in
set_option maxHeartbeats 1000000 in
theorem firsts_any (s : ByteArray) (w : World) (hs : s.size ≤ 1000000) :
    Calls Try.prog 61 #[.string s] w fun e w' => ∃ v F, e = .returned v ∧ F.length = s.size ∧ IsF s.data.toList F ∧ OwnV w' w.heap.size v F ∧ Below w.heap.size w w' := by
  obtain ⟨i0, hi, hz0, hz1, hz2⟩ := info_parts Try.info3
  go_enter Try.func61, Try.ntmps61
  go_wp2
  go_loopw [3, 4] (fun v i wr => ∃ c : Nat, c ≤ 256 ∧ i = .int .i64 c ∧ OwnV wr w.heap.size v (Fo.fTo s.data.toList c) ∧ Below w.heap.size w wr) (fun _ i _ => 256 - (intOf i).toNat)
  case atStart => exact ⟨0, Nat.zero_le _, rfl, World.ownsRow_nil _ _ _ _, Below.refl _ _⟩
  case round =>
    obtain ⟨c, hc, rfl, hown, hbl⟩ := hrel
    obtain ⟨w1, hw1⟩ : ∃ w1, w1 = wr := ⟨_, rfl⟩
    subst hw1
    by_cases hlt : c < 256
    · have hd2 : decide ((c : Int) < 256) = true := by rw [decide_eq_true_eq]; omega
      go_wp2
      go_loopw [3, 5] (fun v i wr => ∃ k : Nat, k ≤ s.size ∧ i = .int .i64 k ∧ OwnV wr w.heap.size v (Fo.fTo s.data.toList c ++ Fo.fIn s.data.toList c k) ∧ Below w.heap.size w wr) (fun _ i _ => s.size - (intOf i).toNat)
      case atStart => exact ⟨0, Nat.zero_le _, rfl, by simpa [Fo.fIn] using hown, hbl⟩
      case round =>
        obtain ⟨k, hk, rfl, hu, hb⟩ := hrel
        clear hown hbl
        have hlen := f_len s.data.toList c k
        rw [size_len] at hlen
        by_cases hks : k < s.size
        · have hlt8 := UInt8.toNat_lt s[k]
          by_cases hby : s[k].toNat = c
          · have HB : Hid ((s.data.toList.getD k 0).toNat = c) := by show (s.data.toList.getD k 0).toNat = c; rw [getD_byte s k hks]; exact hby
            have hbt : ((s[k].toNat : Int) == (c : Int)) = true := by rw [beq_iff_eq]; omega
            clear hby
            go_wp2_with (at_builtin; refine wpList_append_own _ rfl _ _ 26 rfl w.heap.size 3 i0 (.int .i64 0) 1 8 Try.underlying26 hi hz0 hz1 hz2 rfl (by decide) _ _ _ rfl (World.ownsRow.alloc hu _) ⟨wr.heap.size, 0, none⟩ 1 1 [.int .i64 (k : Int)] rfl rfl (cell_one_new _ _ _) (by intro u hu2; simp at hu2; subst hu2; rfl) (by unfold maxLen; omega) (by omega) (by have := hb.size; simp; omega) ?_; intro v' w3 hown3 hgrow3 _)
            have R := ints_step hu hb hb.size hown3 hgrow3
            clear hown3 hgrow3 hu hb
            go_wp2
            go_roundw
            case rel => exact ⟨k + 1, by omega, by go_num, by rw [fIn_hit _ _ _ HB.out, ← List.append_assoc]; exact R.1, R.2⟩
            case measure => simp [intOf]; omega
          · have HB : Hid (¬ (s.data.toList.getD k 0).toNat = c) := by show ¬ (s.data.toList.getD k 0).toNat = c; rw [getD_byte s k hks]; exact hby
            have hbt : ((s[k].toNat : Int) == (c : Int)) = false := by rw [beq_eq_false_iff_ne]; omega
            clear hby
            go_wp2
            go_roundw
            case rel => exact ⟨k + 1, by omega, by go_num, by rw [fIn_miss _ _ _ HB.out]; exact hu, hb⟩
            case measure => simp [intOf]; omega
        · have hke : k = s.size := by omega
          subst hke
          go_wp2
          go_roundw
          case rel => exact ⟨c + 1, by omega, by go_num, hu, hb⟩
          case measure => simp [intOf]; omega
    · have hce : c = 256 := by omega
      subst hce
      go_wp2
      go_ret
      exact ⟨_, Fo.fTo s.data.toList 256, rfl, Fo.fTo_all s.data.toList, ⟨fun _ => rfl⟩, hown, hbl⟩

theorem kinds_apart {w : World} {B : Nat} {v1 v2 : Value} {n1 n2 : Nat} {x1 x2 : List Value} (h1 : w.ownsRow B 3 1 v1 n1 x1) (h2 : w.ownsRow B 5 1 v2 n2 x2) : v1.ownBlock = none ∨ v1.ownBlock ≠ v2.ownBlock := by
  rcases h1.2 with ⟨e1, _⟩ | ⟨g1, cap1, cur1, e1, _, hg1, _⟩
  · left; rw [e1]; rfl
  · right
    rcases h2.2 with ⟨e2, _⟩ | ⟨g2, cap2, cur2, e2, _, hg2, _⟩
    · rw [e1, e2]; simp [Value.ownBlock]
    · rw [e1, e2]
      intro e
      simp [Value.ownBlock] at e
      rw [e, hg2] at hg1
      simp at hg1
/-- one byte more, a row of numbers beside it -/
theorem fw_step {w w1 w0 : World} {B : Nat} {l : List Nat} {v v' f : Value} {m : List UInt8} {b : UInt8} {o : Obj} (hown : OwnV w B f l) (hu : OwnU w B v m) (hbl : Below B w0 w) (hB : B ≤ w.heap.size)
    (h1 : w1.ownsRow B 5 1 v' (m.length + 1) (U m ++ [.int .u8 (b.toNat : Int)])) (h2 : (w.alloc o).grownBy w1 v.ownBlock) : OwnV w1 B f l ∧ OwnU w1 B v' (m ++ [b]) ∧ Below B w0 w1 := by
  have hown' : OwnV (w.alloc o) B f l := World.ownsRow.alloc hown o
  have hu' : OwnU (w.alloc o) B v m := World.ownsRow.alloc hu o
  refine ⟨World.ownsRow.kept hown' h2 (kinds_apart hown' hu'), ?_, (hbl.alloc hB o).grown h2 (by simp; omega) (fun k hk => (World.ownsRow.lt hu k hk).1)⟩
  rw [U_append] at h1
  unfold OwnU
  simpa using h1
theorem OwnV.cell {w : World} {B g cap n : Nat} {l : List Nat} (h : OwnV w B (.slice (some ⟨g, 0, none⟩) n cap) l) (hn : l.length = n) (j : Nat) (hj : j < n) : w.cell? ⟨g, j, none⟩ = some (.int .i64 (l.getD j 0 : Nat)) := by
  subst hn
  rw [World.ownsRow.cellAt h j (by omega), I_get l j hj]

theorem fw_zero (l : List UInt8) (r j : Nat) (h : (Fo.fw l r j).1 = 0) (hj : j ≤ l.length) : Fo.fw l r l.length = Fo.fw l r j := by
  have := Fo.fw_stop l r j h (l.length - j)
  rwa [show j + (l.length - j) = l.length by omega] at this
theorem fw_go (l : List UInt8) (F : List Nat) (hF : IsF l F) (r j a k : Nat) (h : (Fo.fw l r j).1 = a + 1) (hk : F.getD a 0 = k) : Fo.fw l r (j + 1) = (Fo.seat r k, (Fo.fw l r j).2 ++ [l.getD k 0]) := by
  rw [Fo.fw, if_neg (by omega), h, Nat.add_sub_cancel, hF.get, hk]

set_option maxHeartbeats 400000 in
theorem rUnturn_long (s : ByteArray) (r : Int) (w : World) (hs : 120 < s.size) :
    Calls Try.prog 42 #[.string s, .int .i64 r] w fun e w' => e = .returned (.tuple #[S [], .int .i64 2]) ∧ w' = w := by
  go_enter Try.func42, Try.ntmps42
  go_wp2
  go_ret2
  exact ⟨rfl, rfl⟩
set_option maxHeartbeats 400000 in
theorem rUnturn_out (s : ByteArray) (r : Int) (w : World) (hs : s.size ≤ 120) (h : r < 0 ∨ (s.size : Int) < r) :
    Calls Try.prog 42 #[.string s, .int .i64 r] w fun e w' => e = .returned (.tuple #[S [], .int .i64 8]) ∧ w' = w := by
  rcases h with h | h
  · go_enter Try.func42, Try.ntmps42
    go_wp2
    go_ret2
    exact ⟨rfl, rfl⟩
  · have h0 : ¬ r < 0 := by omega
    go_enter Try.func42, Try.ntmps42
    go_wp2
    go_ret2
    exact ⟨rfl, rfl⟩

end Go.Proofs.Ythkndfkkgncjfaa
