/- Walks: suffix.Turn, folioref.turn. -/
import Derived.Test.YthkndfkkgncjfaaWalkB
import Derived.Laws.BytesArg
import Derived.Laws.IdiomStrings
namespace Go.Proofs.Ythkndfkkgncjfaa
open Go.RowKit
set_option maxRecDepth 100000

/-- bytes as cells -/
def U (l : List UInt8) : List Value := l.map fun (b : UInt8) => Value.int .u8 (b.toNat : Int)
theorem U_length (l : List UInt8) : (U l).length = l.length := by simp [U]
theorem U_append (l : List UInt8) (b : UInt8) : U l ++ [.int .u8 (b.toNat : Int)] = U (l ++ [b]) := by simp [U]
def OwnU (w : World) (B : Nat) (v : Value) (l : List UInt8) : Prop := w.ownsRow B 5 1 v l.length (U l)
theorem OwnU.below {w w' : World} {B : Nat} {v : Value} {l : List UInt8} (h : OwnU w B v l) (hb : Below w.heap.size w w') : OwnU w' B v l := row_below h hb

theorem OwnU.string {w : World} {B : Nat} {v : Value} {l : List UInt8} (h : OwnU w B v l) : (convert 115 9 v).run Try.prog w = .ok (.string ⟨l.toArray⟩) w := by
  rcases h.2 with ⟨rfl, hn⟩ | ⟨g, cap, cur, rfl, hB, hg, rest⟩
  · have : l = [] := by simpa [U] using hn
    subst this
    rw [run_convert_bytes_nil w 115 5 Try.underlying115 Try.underlying5 0 0 9 Try.underlying9]; rfl
  · refine run_convert_bytes_back w 115 9 5 ⟨g, 0, none⟩ cap l Try.underlying115 Try.underlying5 Try.underlying9 (fun j hj => ?_)
    have hc := World.ownsRow.cells h (g := g) rfl j (.int .u8 (l[j].toNat : Int)) (by simp [U, hj])
    exact hc

theorem apart_rows {w : World} {B g : Nat} {l : List Nat} {v : Value} {m : List UInt8} (h : OwnI w B g l) (k : OwnU w B v m) : v.ownBlock ≠ some g := by
  intro e
  rcases h.2 with ⟨h1, _⟩ | ⟨g1, cap1, cur1, h1, _, hg1, _⟩
  · simp at h1
  · rcases k.2 with ⟨h2, _⟩ | ⟨g2, cap2, cur2, h2, _, hg2, _⟩
    · rw [h2] at e; simp [Value.ownBlock] at e
    · rw [h2] at e
      simp [Value.ownBlock] at e
      simp at h1
      rw [e, h1.1, hg1] at hg2
      simp at hg2
theorem OwnI.grown {w w' : World} {B g : Nat} {l : List Nat} {row : Option Nat} (h : OwnI w B g l) (hg : w.grownBy w' row) (hne : row ≠ some g) : OwnI w' B g l :=
  World.ownsRow.kept h hg (.inr (fun e => hne (by rw [← e]; rfl)))

/-- one byte more -/
theorem turn_step {w w1 w0 : World} {B g : Nat} {l : List Nat} {v v' : Value} {m : List UInt8} {b : UInt8} {o : Obj} (hown : OwnI w B g l) (hu : OwnU w B v m) (hbl : Below B w0 w) (hB : B ≤ w.heap.size)
    (h1 : w1.ownsRow B 5 1 v' (m.length + 1) (U m ++ [.int .u8 (b.toNat : Int)])) (h2 : (w.alloc o).grownBy w1 v.ownBlock) : OwnI w1 B g l ∧ OwnU w1 B v' (m ++ [b]) ∧ Below B w0 w1 := by
  have hown' : OwnI (w.alloc o) B g l := World.ownsRow.alloc hown o
  have hu' : OwnU (w.alloc o) B v m := World.ownsRow.alloc hu o
  refine ⟨hown'.grown h2 (apart_rows hown' hu'), ?_, (hbl.alloc hB o).grown h2 (by simp; omega) (fun k hk => (World.ownsRow.lt hu k hk).1)⟩
  rw [U_append] at h1
  unfold OwnU
  simpa using h1

theorem turnTo_zero {t : List UInt8} {l : List Nat} {k : Nat} (h : l.getD k 0 = 0) : Fo.turnTo t l (k + 1) = ((Fo.turnTo t l k).1, k) := by rw [Fo.turnTo, if_pos h]
theorem turnTo_pos {t : List UInt8} {l : List Nat} {k y : Nat} (h : l.getD k 0 = y + 1) : Fo.turnTo t l (k + 1) = ((Fo.turnTo t l k).1 ++ [t.getD y 0], (Fo.turnTo t l k).2) := by rw [Fo.turnTo, if_neg (by omega), h]; rfl

theorem getD_byte (s : ByteArray) (y : Nat) (h : y < s.size) : s.data.toList.getD y 0 = s[y] := by
  rw [List.getD_eq_getElem?_getD, List.getElem?_eq_getElem h]; rfl

set_option maxHeartbeats 1000000 in
theorem turn_any (s : ByteArray) (w : World) (hs : s.size ≤ 1000000) :
    Calls Try.prog 45 #[.string s] w fun e w' => e = .returned (.tuple #[.string ⟨(Fo.turn s.data.toList).1.toArray⟩, .int .i64 ((Fo.turn s.data.toList).2 : Nat)]) ∧ Below w.heap.size w w' := by
  obtain ⟨i0, hi, hz0, hz1, hz2⟩ := info_parts Try.info5
  go_enter Try.func45, Try.ntmps45
  go_wp2_with (first | (go_at_call 44; refine (order_any _ _ hs).mono ?_; rintro e w1 ⟨g, rfl, hown, hbl⟩) | (at_make; refine wpList_make_own _ rfl _ _ 115 rfl w.heap.size 5 i0 (.int .u8 0) 1 Try.underlying115 hi hz0 hz1 .i64 .i64 _ s.size rfl rfl (by omega) (by rw [hz2]; omega) (by unfold maxLen; omega) hbl.size ?_; intro w2 hown2 hgrow2))
  have hown' : OwnI w2 w.heap.size g (Fo.ord s.data.toList) := hown.grown hgrow2 (by simp)
  have hbl' : Below w.heap.size w w2 := hbl.grown hgrow2 hbl.size (by simp)
  have hu' : OwnU w2 w.heap.size (.slice (some ⟨w1.heap.size, 0, none⟩) 0 s.size) [] := hown2
  have hol : (Fo.ord s.data.toList).length = s.size + 1 := Fo.ord_length _
  clear hown hgrow2 hbl hown2
  go_loopw [5, 6, 16] (fun v h i wr => ∃ k : Nat, k ≤ s.size + 1 ∧ i = .int .i64 k ∧ h = .int .i64 ((Fo.turnTo s.data.toList (Fo.ord s.data.toList) k).2 : Nat) ∧
      OwnU wr w.heap.size v (Fo.turnTo s.data.toList (Fo.ord s.data.toList) k).1 ∧ OwnI wr w.heap.size g (Fo.ord s.data.toList) ∧ Below w.heap.size w wr) (fun _ _ i _ => s.size + 1 - (intOf i).toNat)
  case atStart => exact ⟨0, Nat.zero_le _, rfl, rfl, hu', hown', hbl'⟩
  case round =>
    obtain ⟨k, hk, rfl, rfl, hu, ho, hb⟩ := hrel
    clear hown' hu' hbl'
    by_cases hlt : k < s.size + 1
    · have hc := ho.cell k (by omega)
      have hle : (Fo.ord s.data.toList).getD k 0 ≤ s.size := by
        refine Fo.ord_le s.data.toList _ ?_
        rw [List.getD_eq_getElem?_getD, List.getElem?_eq_getElem (by omega)]; exact List.getElem_mem _
      have hrow := Fo.turnTo_row s.data.toList (Fo.ord s.data.toList) k
      have hlen := Fo.turnTo_len s.data.toList (Fo.ord s.data.toList) k
      obtain ⟨x, hx⟩ : ∃ x, (Fo.ord s.data.toList).getD k 0 = x := ⟨_, rfl⟩
      rw [hx] at hc hle
      have HX : Hid ((Fo.ord s.data.toList).getD k 0 = x) := hx
      clear hx
      cases x with
      | zero =>
        go_wp2
        go_roundw
        case rel => exact ⟨k + 1, by omega, by go_num, by rw [turnTo_zero HX.out], by rw [turnTo_zero HX.out]; exact hu, ho, hb⟩
        case measure => simp [intOf]; omega
      | succ y =>
        have hc' : wr.cell? ⟨g, k, none⟩ = some (.int .i64 ((y : Int) + 1)) := by rw [hc]; simp
        clear hc
        have hne : (((y : Int) + 1) == 0) = false := by rw [beq_eq_false_iff_ne]; omega
        have hys : y < s.size := by omega
        go_wp2_with (at_builtin; refine wpList_append_own _ rfl _ _ 115 rfl w.heap.size 5 i0 (.int .u8 0) 1 1 Try.underlying115 hi hz0 hz1 hz2 rfl (by decide) _ _ _ rfl (World.ownsRow.alloc hu _) ⟨wr.heap.size, 0, none⟩ 1 1 [.int .u8 (s[y].toNat : Int)] rfl rfl (cell_one_new _ _ _) (by intro u hu2; simp at hu2; subst hu2; rfl) (by unfold maxLen; omega) (by omega) (by have := hb.size; simp; omega) ?_; intro v' w3 hown3 hgrow3 _)
        have R := turn_step ho hu hb hb.size hown3 hgrow3
        clear hown3 hgrow3 hu ho hb
        go_wp2
        go_roundw
        case rel => exact ⟨k + 1, by omega, by go_num, by rw [turnTo_pos HX.out], by rw [turnTo_pos HX.out]; rw [getD_byte s y hys]; exact R.2.1, R.1, R.2.2⟩
        case measure => simp [intOf]; omega
    · have hke : k = s.size + 1 := by omega
      subst hke
      have hst := hu.string
      go_wp2
      go_ret2
      exact ⟨rfl, hb⟩

set_option maxHeartbeats 1000000 in
theorem ref_turn_any (s : ByteArray) (w : World) (hs : s.size ≤ 1000000) :
    Calls Try.prog 60 #[.string s] w fun e w' => e = .returned (.tuple #[.string ⟨(Fo.turn s.data.toList).1.toArray⟩, .int .i64 ((Fo.turn s.data.toList).2 : Nat)]) ∧ Below w.heap.size w w' := by
  obtain ⟨i0, hi, hz0, hz1, hz2⟩ := info_parts Try.info5
  go_enter Try.func60, Try.ntmps60
  go_wp2_with (go_at_call 59; refine (ref_order_any _ _ hs).mono ?_; rintro e w2 ⟨g, rfl, hown', hbl'⟩)
  have hu' : OwnU w2 w.heap.size (.slice none 0 0) [] := World.ownsRow_nil _ _ _ _
  have hol : (Fo.ord s.data.toList).length = s.size + 1 := Fo.ord_length _
  go_loopw [5, 6, 7] (fun v h i wr => ∃ k : Nat, k ≤ s.size + 1 ∧ i = .int .i64 k ∧ h = .int .i64 ((Fo.turnTo s.data.toList (Fo.ord s.data.toList) k).2 : Nat) ∧
      OwnU wr w.heap.size v (Fo.turnTo s.data.toList (Fo.ord s.data.toList) k).1 ∧ OwnI wr w.heap.size g (Fo.ord s.data.toList) ∧ Below w.heap.size w wr) (fun _ _ i _ => s.size + 1 - (intOf i).toNat)
  case atStart => exact ⟨0, Nat.zero_le _, rfl, rfl, hu', hown', hbl'⟩
  case round =>
    obtain ⟨k, hk, rfl, rfl, hu, ho, hb⟩ := hrel
    clear hown' hu' hbl'
    by_cases hlt : k < s.size + 1
    · have hc := ho.cell k (by omega)
      have hle : (Fo.ord s.data.toList).getD k 0 ≤ s.size := by
        refine Fo.ord_le s.data.toList _ ?_
        rw [List.getD_eq_getElem?_getD, List.getElem?_eq_getElem (by omega)]; exact List.getElem_mem _
      have hrow := Fo.turnTo_row s.data.toList (Fo.ord s.data.toList) k
      have hlen := Fo.turnTo_len s.data.toList (Fo.ord s.data.toList) k
      obtain ⟨x, hx⟩ : ∃ x, (Fo.ord s.data.toList).getD k 0 = x := ⟨_, rfl⟩
      rw [hx] at hc hle
      have HX : Hid ((Fo.ord s.data.toList).getD k 0 = x) := hx
      clear hx
      cases x with
      | zero =>
        go_wp2
        go_roundw
        case rel => exact ⟨k + 1, by omega, by go_num, by rw [turnTo_zero HX.out], by rw [turnTo_zero HX.out]; exact hu, ho, hb⟩
        case measure => simp [intOf]; omega
      | succ y =>
        have hc' : wr.cell? ⟨g, k, none⟩ = some (.int .i64 ((y : Int) + 1)) := by rw [hc]; simp
        clear hc
        have hne : (((y : Int) + 1) == 0) = false := by rw [beq_eq_false_iff_ne]; omega
        have hys : y < s.size := by omega
        go_wp2_with (at_builtin; refine wpList_append_own _ rfl _ _ 115 rfl w.heap.size 5 i0 (.int .u8 0) 1 1 Try.underlying115 hi hz0 hz1 hz2 rfl (by decide) _ _ _ rfl (World.ownsRow.alloc hu _) ⟨wr.heap.size, 0, none⟩ 1 1 [.int .u8 (s[y].toNat : Int)] rfl rfl (cell_one_new _ _ _) (by intro u hu2; simp at hu2; subst hu2; rfl) (by unfold maxLen; omega) (by omega) (by have := hb.size; simp; omega) ?_; intro v' w3 hown3 hgrow3 _)
        have R := turn_step ho hu hb hb.size hown3 hgrow3
        clear hown3 hgrow3 hu ho hb
        go_wp2
        go_roundw
        case rel => exact ⟨k + 1, by omega, by go_num, by rw [turnTo_pos HX.out], by rw [turnTo_pos HX.out]; rw [getD_byte s y hys]; exact R.2.1, R.1, R.2.2⟩
        case measure => simp [intOf]; omega
    · have hke : k = s.size + 1 := by omega
      subst hke
      have hst := hu.string
      go_wp2
      go_ret2
      exact ⟨rfl, hb⟩

end Go.Proofs.Ythkndfkkgncjfaa
