/- Walks: suffix.longer, suffix.Unturn, folio.Unturn. -/
import Derived.Test.YthkndfkkgncjfaaWalkD
import Derived.Test.YthkndfkkgncjfaaMathC
namespace Go.Proofs.Ythkndfkkgncjfaa
open Go.RowKit
set_option maxRecDepth 100000

theorem sooner_at (s : ByteArray) (i p : Nat) (hi : i < s.size) (hp : p < s.size) :
    Fo.sooner s.data.toList i p = (decide (s[i].toNat < s[p].toNat) || (decide (s[i].toNat = s[p].toNat) && decide (i < p))) := by
  unfold Fo.sooner
  rw [getD_byte s i hi, getD_byte s p hp]
  congr 1
  congr 1
  rw [Bool.eq_iff_iff]
  simp [UInt8.toNat_inj]

theorem longTo_succ (l : List UInt8) (p k : Nat) : Fo.cnt (fun i => Fo.sooner l i p) (k + 1) = Fo.cnt (fun i => Fo.sooner l i p) k + (if Fo.sooner l k p then 1 else 0) := rfl

set_option maxHeartbeats 1000000 in
theorem longer_any (s : ByteArray) (p : Nat) (w : World) (hp : p < s.size) (hs : s.size ≤ 1000000) :
    Calls Try.prog 65 #[.string s, .int .i64 (p : Int)] w fun e w' => e = .returned (.int .i64 (Fo.longer s.data.toList p : Nat)) ∧ ∃ m, w' = w.drewN m := by
  go_enter Try.func65, Try.ntmps65
  go_wp2
  go_loopw [5, 6] (fun n i wr => ∃ k : Nat, k ≤ s.size ∧ i = .int .i64 k ∧ n = .int .i64 ((1 : Int) + (Fo.cnt (fun i => Fo.sooner s.data.toList i p) k : Nat)) ∧ ∃ m, wr = w.drewN m) (fun _ i _ => s.size - (intOf i).toNat)
  case atStart => exact ⟨0, Nat.zero_le _, rfl, rfl, 0, rfl⟩
  case round =>
    obtain ⟨k, hk, rfl, rfl, hwr⟩ := hrel
    have HW : Hid (∃ m, wr = w.drewN m) := hwr
    clear hwr
    have hd : Fo.cnt (fun i => Fo.sooner s.data.toList i p) k ≤ k := Fo.cnt_le _ _
    generalize hc : Fo.cnt (fun i => Fo.sooner s.data.toList i p) k = c at *
    have HC : Hid (Fo.cnt (fun i => Fo.sooner s.data.toList i p) k = c) := hc
    clear hc
    by_cases hlt : k < s.size
    · have hso := sooner_at s k p hlt hp
      have HS : Hid (Fo.cnt (fun i => Fo.sooner s.data.toList i p) (k + 1) = c + (if (decide (s[k].toNat < s[p].toNat) || (decide (s[k].toNat = s[p].toNat) && decide (k < p))) then 1 else 0)) := by
        have h := longTo_succ s.data.toList p k
        rw [hso, HC.out] at h; exact h
      clear hso HC
      by_cases h1 : s[k].toNat < s[p].toNat
      · go_wp2
        go_quiet (fail)
        go_wp2
        go_roundw
        case rel => exact ⟨k + 1, by omega, by go_num, by rw [HS.out]; simp [h1]; omega, by obtain ⟨m, hm⟩ := HW.out; exact ⟨m + nq, by rw [hm, World.drewN_drewN]⟩⟩
        case measure => simp [intOf]; omega
      · have h1' : decide (s[k].toNat < s[p].toNat) = false := by simpa using h1
        by_cases h2 : s[k].toNat = s[p].toNat
        · have h2' : ((s[k].toNat : Int) == (s[p].toNat : Int)) = true := by rw [beq_iff_eq]; omega
          by_cases h3 : k < p
          · go_wp2
            go_quiet (fail)
            go_wp2
            go_roundw
            case rel => exact ⟨k + 1, by omega, by go_num, by rw [HS.out]; simp [h2, h3]; omega, by obtain ⟨m, hm⟩ := HW.out; exact ⟨m + nq, by rw [hm, World.drewN_drewN]⟩⟩
            case measure => simp [intOf]; omega
          · go_wp2
            go_quiet (fail)
            go_wp2
            go_roundw
            case rel => exact ⟨k + 1, by omega, by go_num, by rw [HS.out]; simp [h2, h3], by obtain ⟨m, hm⟩ := HW.out; exact ⟨m + nq, by rw [hm, World.drewN_drewN]⟩⟩
            case measure => simp [intOf]; omega
        · have h2' : ((s[k].toNat : Int) == (s[p].toNat : Int)) = false := by rw [beq_eq_false_iff_ne]; omega
          go_wp2
          go_quiet (fail)
          go_wp2
          go_roundw
          case rel => exact ⟨k + 1, by omega, by go_num, by rw [HS.out]; simp [h1, h2], by obtain ⟨m, hm⟩ := HW.out; exact ⟨m + nq, by rw [hm, World.drewN_drewN]⟩⟩
          case measure => simp [intOf]; omega
    · go_wp2
      go_ret
      have e : k = s.size := by omega
      subst e
      exact ⟨ret_int (by rw [← HC.out]; unfold Fo.longer; rw [size_len]; omega), HW.out⟩

theorem longer_at (s : ByteArray) (x : Int) (p : Nat) (w : World) (hx : x = (p : Int)) (hp : p < s.size) (hs : s.size ≤ 1000000) :
    Calls Try.prog 65 #[.string s, .int .i64 x] w fun e w' => e = .returned (.int .i64 (Fo.longer s.data.toList p : Nat)) ∧ ∃ m, w' = w.drewN m := by
  subst hx; exact longer_any s p w hp hs

theorem U_set (l : List UInt8) (j : Nat) (x : UInt8) : (U l).set j (.int .u8 (x.toNat : Int)) = U (l.set j x) := by simp [U, List.map_set]
/-- a made row of bytes -/
def RowU (w : World) (B g : Nat) (l : List UInt8) : Prop := OwnU w B (.slice (some ⟨g, 0, none⟩) l.length l.length) l
theorem RowU.cell {w : World} {B g : Nat} {l : List UInt8} (h : RowU w B g l) (j : Nat) (hj : j < l.length) : w.cell? ⟨g, j, none⟩ = some (.int .u8 ((l.getD j 0).toNat : Int)) := by
  rw [World.ownsRow.cellAt h j (by omega)]; simp [U, hj]
theorem RowU.free {w : World} {B g : Nat} {l : List UInt8} (h : RowU w B g l) (j : Nat) : w.frozen? ⟨g, j, none⟩ = false := World.ownsRow.frozenAt h j
theorem RowU.put {w : World} {B g : Nat} {l : List UInt8} (h : RowU w B g l) (j : Nat) (x : UInt8) : RowU (w.setCell ⟨g, j, none⟩ (.int .u8 (x.toNat : Int))) B g (l.set j x) := by
  have := (World.ownsRow.stored h j (.int .u8 (x.toNat : Int))).1
  rw [U_set] at this
  unfold RowU OwnU
  rw [List.length_set]
  exact this
theorem RowU.below {w w' : World} {B g : Nat} {l : List UInt8} (h : RowU w B g l) (hb : Below w.heap.size w w') : RowU w' B g l := row_below h hb
theorem made_bytes {w : World} {B g n : Nat} (h : w.ownsRow B 5 1 (.slice (some ⟨g, 0, none⟩) n n) n (madeCells (Value.int .u8 0).cells (n * 1)).toList) : RowU w B g (List.replicate n 0) := by
  have e : (madeCells (Value.int .u8 0).cells (n * 1)).toList = U (List.replicate n 0) := by
    rw [Nat.mul_one]
    show (madeCells #[Value.int .u8 0] n).toList = _
    rw [toList_madeCells_one]; simp [U]
  unfold RowU OwnU
  rw [List.length_replicate, ← e]; exact h
theorem set_zeros (q : Nat) (x : UInt8) (T : List UInt8) : (List.replicate (q + 1) (0 : UInt8) ++ T).set q x = List.replicate q 0 ++ x :: T := by
  rw [List.replicate_succ', List.append_assoc, List.set_append_right _ _ (by simp)]
  simp

/-- what the way back comes to -/
def unRes (l : List UInt8) (r : Nat) : List UInt8 × Bool := match Fo.un l r l.length with
  | none => ([], false)
  | some x => (x.2, true)
theorem unRes_hit (l : List UInt8) (r k : Nat) (hk : k < l.length) (h : Fo.pos l r k = r) : unRes l r = ([], false) := by
  unfold unRes
  cases hu : Fo.un l r l.length with
  | none => rfl
  | some x => exact absurd h ((Fo.un_some l r _ x hu).1 k hk)
theorem unRes_all (l : List UInt8) (r : Nat) (h : ∀ j, j < l.length → Fo.pos l r j ≠ r) : unRes l r = (Fo.text l r, true) := by
  unfold unRes
  rw [Fo.un_of l r _ h]; rfl

set_option maxHeartbeats 400000 in
theorem unturn_out (s : ByteArray) (r : Int) (w : World) (hs : s.size ≤ 1000000) (h : r < 0 ∨ (s.size : Int) < r) :
    Calls Try.prog 46 #[.string s, .int .i64 r] w fun e w' => e = .returned (.tuple #[S [], .bool false]) ∧ w' = w := by
  rcases h with h | h
  · go_enter Try.func46, Try.ntmps46
    go_wp2
    go_ret2
    exact ⟨rfl, rfl⟩
  · have h0 : ¬ r < 0 := by omega
    go_enter Try.func46, Try.ntmps46
    go_wp2
    go_ret2
    exact ⟨rfl, rfl⟩

set_option maxHeartbeats 1000000 in
theorem unturn_in (s : ByteArray) (r : Nat) (w : World) (hs : s.size ≤ 1000000) (hr : r ≤ s.size) :
    Calls Try.prog 46 #[.string s, .int .i64 (r : Int)] w fun e w' => e = .returned (.tuple #[S (unRes s.data.toList r).1, .bool (unRes s.data.toList r).2]) ∧ Below w.heap.size w w' := by
  obtain ⟨i0, hi, hz0, hz1, hz2⟩ := info_parts Try.info5
  have hr0 : decide ((r : Int) < 0) = false := by simp
  go_enter Try.func46, Try.ntmps46
  go_wp2_with (at_make; refine wpList_make_full _ rfl _ _ 115 rfl w.heap.size 5 i0 (.int .u8 0) 1 Try.underlying115 hi hz0 hz1 .i64 .i64 _ _ s.size rfl rfl (by omega) (by omega) (by rw [hz2]; omega) (by unfold maxLen; omega) (Nat.le_refl _) ?_; intro w0 hown0 hgrow0)
  have hb0 : Below w.heap.size w w0 := (Below.refl _ _).grown hgrow0 (Nat.le_refl _) (by simp)
  have hm0 := made_bytes hown0
  clear hown0 hgrow0
  go_loopw [7, 8] (fun a i wr => ∃ k q : Nat, k + q = s.size ∧ i = .int .i64 ((q : Int) - 1) ∧ a = .int .i64 (Fo.pos s.data.toList r k : Nat) ∧ (∀ j, j < k → Fo.pos s.data.toList r j ≠ r) ∧
      RowU wr w.heap.size w.heap.size (List.replicate q 0 ++ Fo.bytesTo s.data.toList r k) ∧ Below w.heap.size w wr) (fun _ i _ => (intOf i + 1).toNat)
  case atStart => exact ⟨0, s.size, by omega, rfl, rfl, fun j hj => by omega, by simpa [Fo.bytesTo] using hm0, hb0⟩
  case round =>
    obtain ⟨k, q, hkq, rfl, rfl, hno, hrow, hbl⟩ := hrel
    clear hm0 hb0
    have HN : Hid (∀ j, j < k → Fo.pos s.data.toList r j ≠ r) := hno
    clear hno
    cases q with
    | zero =>
      have hks : k = s.size := by omega
      subst hks
      have hst : (convert 115 9 (.slice (some ⟨w.heap.size, 0, none⟩) s.size s.size)).run Try.prog wr = .ok (.string ⟨(Fo.text s.data.toList r).toArray⟩) wr := by
        have h := OwnU.string hrow
        simp only [List.replicate_zero, List.nil_append, Fo.bytesTo_len] at h
        exact h
      have HR : Hid (unRes s.data.toList r = (Fo.text s.data.toList r, true)) := unRes_all _ _ HN.out
      go_wp2
      go_ret2
      exact ⟨by rw [HR.out]; rfl, hbl⟩
    | succ q =>
      have e1 : (((q + 1 : Nat) : Int) - 1) = (q : Int) := by omega
      rw [e1]
      clear e1
      obtain ⟨a, ha⟩ : ∃ a, Fo.pos s.data.toList r k = a := ⟨_, rfl⟩
      have hale : a ≤ s.size := by
        rw [← ha]
        exact Fo.pos_le' s.data.toList r k (by rw [size_len]; omega) HN.out hr
      rw [ha]
      have HA : Hid (Fo.pos s.data.toList r k = a) := ha
      clear ha
      by_cases har : a = r
      · have HR : Hid (unRes s.data.toList r = ([], false)) := unRes_hit _ _ k (by rw [size_len]; omega) (by rw [HA.out]; exact har)
        have hb1 : ((a : Int) == (r : Int)) = true := by rw [beq_iff_eq]; omega
        clear har
        go_wp2
        go_ret2
        exact ⟨by rw [HR.out]; rfl, hbl⟩
      · have hb1 : ((a : Int) == (r : Int)) = false := by rw [beq_eq_false_iff_ne]; omega
        obtain ⟨p, hp⟩ : ∃ p, Fo.place r a = p := ⟨_, rfl⟩
        have hpl : p < s.size := by rw [← hp]; exact Fo.place_lt r a s.size har hale hr
        have HB : Hid (Fo.bytesTo s.data.toList r (k + 1) = s[p] :: Fo.bytesTo s.data.toList r k) := by
          show Fo.bytesTo s.data.toList r (k + 1) = _
          rw [Fo.bytesTo, HA.out, hp, getD_byte s p hpl]
        have HP : Hid (Fo.pos s.data.toList r (k + 1) = Fo.longer s.data.toList p) := by
          show Fo.pos s.data.toList r (k + 1) = _
          rw [Fo.pos, HA.out, hp]
        have HN2 : Hid (∀ j, j < k + 1 → Fo.pos s.data.toList r j ≠ r) := by
          intro j hj
          by_cases ej : j = k
          · rw [ej, HA.out]; exact har
          · exact HN.out j (by omega)
        have hlen : (List.replicate (q + 1) (0 : UInt8) ++ Fo.bytesTo s.data.toList r k).length = s.size := by simp [Fo.bytesTo_len]; omega
        have hc := hrow.cell q (by simp; omega)
        have hf := hrow.free q
        have hpu := hrow.put q s[p]
        rw [set_zeros] at hpu
        have hll := Fo.longer_le s.data.toList p hpl
        rw [size_len] at hll
        clear HN HA hrow
        by_cases hgt : r < a
        · have hpe : (a : Int) - 1 = (p : Int) := by rw [← hp]; unfold Fo.place; rw [if_pos hgt]; omega
          clear hp
          go_wp2_with fail
          refine (longer_any s p _ hpl hs).mono ?_
          rintro e w1 ⟨rfl, m, hm⟩
          rw [hm]
          clear hm
          go_wp2
          go_roundw
          case rel => exact ⟨k + 1, q, by omega, rfl, by rw [HP.out], HN2.out, by rw [HB.out]; exact hpu.below (below_drewN (Below.refl _ _) _), below_drewN (hbl.setCell (p := ⟨w.heap.size, q, none⟩) (Nat.le_refl _) _) _⟩
          case measure => simp [intOf]
        · have hpe : a = p := by rw [← hp]; unfold Fo.place; rw [if_neg hgt]
          subst hpe
          clear hp
          go_wp2_with fail
          refine (longer_any s a _ hpl hs).mono ?_
          rintro e w1 ⟨rfl, m, hm⟩
          rw [hm]
          clear hm
          go_wp2
          go_roundw
          case rel => exact ⟨k + 1, q, by omega, rfl, by rw [HP.out], HN2.out, by rw [HB.out]; exact hpu.below (below_drewN (Below.refl _ _) _), below_drewN (hbl.setCell (p := ⟨w.heap.size, q, none⟩) (Nat.le_refl _) _) _⟩
          case measure => simp [intOf]

set_option maxHeartbeats 400000 in
theorem Unturn_long (s : ByteArray) (r : Int) (w : World) (hs : 120 < s.size) :
    Calls Try.prog 21 #[.string s, .int .i64 r] w fun e w' => e = .returned (.tuple #[S [], .int .i64 2]) ∧ w' = w := by
  go_enter Try.func21, Try.ntmps21
  go_wp2
  go_ret2
  exact ⟨rfl, rfl⟩
set_option maxHeartbeats 400000 in
theorem Unturn_out (s : ByteArray) (r : Int) (w : World) (hs : s.size ≤ 120) (h : r < 0 ∨ (s.size : Int) < r) :
    Calls Try.prog 21 #[.string s, .int .i64 r] w fun e w' => e = .returned (.tuple #[S [], .int .i64 8]) ∧ w' = w := by
  go_enter Try.func21, Try.ntmps21
  go_wp2_with (go_at_call 46; refine (unturn_out _ _ _ (by omega) h).mono ?_; rintro e w1 ⟨rfl, hw1⟩; rw [hw1])
  go_ret2
  exact ⟨rfl, rfl⟩
set_option maxHeartbeats 400000 in
theorem Unturn_no (s : ByteArray) (r : Nat) (w : World) (hs : s.size ≤ 120) (hr : r ≤ s.size) (h : unRes s.data.toList r = ([], false)) :
    Calls Try.prog 21 #[.string s, .int .i64 (r : Int)] w fun e w' => e = .returned (.tuple #[S [], .int .i64 8]) ∧ Below w.heap.size w w' := by
  have H : Hid (unRes s.data.toList r = ([], false)) := h
  clear h
  go_enter Try.func21, Try.ntmps21
  go_wp2_with (go_at_call 46; refine (unturn_in _ _ _ (by omega) hr).mono ?_; rintro e w1 ⟨he, hw1⟩; rw [H.out] at he; subst he)
  go_ret2
  exact ⟨rfl, hw1⟩
set_option maxHeartbeats 400000 in
theorem Unturn_yes (s : ByteArray) (r : Nat) (T : List UInt8) (w : World) (hs : s.size ≤ 120) (hr : r ≤ s.size) (h : unRes s.data.toList r = (T, true)) :
    Calls Try.prog 21 #[.string s, .int .i64 (r : Int)] w fun e w' => e = .returned (.tuple #[S T, .int .i64 0]) ∧ Below w.heap.size w w' := by
  have H : Hid (unRes s.data.toList r = (T, true)) := h
  clear h
  go_enter Try.func21, Try.ntmps21
  go_wp2_with (go_at_call 46; refine (unturn_in _ _ _ (by omega) hr).mono ?_; rintro e w1 ⟨he, hw1⟩; rw [H.out] at he; subst he)
  go_ret2
  exact ⟨rfl, hw1⟩

end Go.Proofs.Ythkndfkkgncjfaa
