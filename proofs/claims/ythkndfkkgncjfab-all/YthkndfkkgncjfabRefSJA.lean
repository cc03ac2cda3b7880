/- MathA, WalkA, WalkB, WalkC, WalkD, MathB, MathC, WalkH, MathD, WalkI, DocA. -/
import GoSem.Op.String
import Derived.Test.YthkndfkkgncjfabProg
import Derived.WalkKit
import Derived.WalkSpells
import Derived.WalkLawsBesides
import Derived.Deep.QuietTactic
import Derived.BigQuiet
import Derived.Lib.IndexBytes
import Derived.Laws.BytesArg
import Derived.Laws.IdiomStrings
namespace Go.Proofs.Ythkndfkkgncjfab.Fo

/-- how many of the first n numbers meet p -/
def cnt (p : Nat → Bool) : Nat → Nat
  | 0 => 0
  | k + 1 => cnt p k + (if p k then 1 else 0)

theorem cnt_le (p : Nat → Bool) : ∀ n, cnt p n ≤ n
  | 0 => Nat.le_refl _
  | n + 1 => by have := cnt_le p n; unfold cnt; split <;> omega

theorem cnt_mono (p : Nat → Bool) (n : Nat) : ∀ d, cnt p n ≤ cnt p (n + d)
  | 0 => Nat.le_refl _
  | d + 1 => by have := cnt_mono p n d; show _ ≤ cnt p (n + d) + _; omega

theorem cnt_lt (p : Nat → Bool) : ∀ n i, i < n → p i = false → cnt p n < n
  | n + 1, i, h, hp => by
      have hl := cnt_le p n
      unfold cnt
      by_cases e : i = n
      · subst e; rw [hp]; simp; omega
      · have := cnt_lt p n i (by omega) hp
        split <;> omega

theorem cnt_congr (p q : Nat → Bool) : ∀ n, (∀ i, i < n → p i = q i) → cnt p n = cnt q n
  | 0, _ => rfl
  | n + 1, h => by
      unfold cnt
      rw [cnt_congr p q n (fun i hi => h i (by omega)), h n (by omega)]

theorem cnt_imp (p q : Nat → Bool) : ∀ n, (∀ i, i < n → p i = true → q i = true) → cnt p n ≤ cnt q n
  | 0, _ => Nat.le_refl _
  | n + 1, h => by
      have := cnt_imp p q n (fun i hi => h i (by omega))
      have hn := h n (by omega)
      unfold cnt
      cases hp : p n <;> cases hq : q n <;> simp_all <;> omega

theorem cnt_imp_lt (p q : Nat → Bool) : ∀ n j, j < n → (∀ i, i < n → p i = true → q i = true) → p j = false → q j = true → cnt p n < cnt q n
  | n + 1, j, hj, h, hp, hq => by
      unfold cnt
      by_cases e : j = n
      · subst e
        have := cnt_imp p q j (fun i hi => h i (by omega))
        rw [hp, hq]; simp; omega
      · have := cnt_imp_lt p q n j (by omega) (fun i hi => h i (by omega)) hp hq
        have hn := h n (by omega)
        cases hp : p n <;> cases hq : q n <;> simp_all <;> omega

theorem lt_irrefl : ∀ a : List UInt8, Op.bytesLess a a = false
  | [] => rfl
  | a :: x => by simp [Op.bytesLess, lt_irrefl x]

/-- suffixes of t that go ahead of b, among the first k offsets -/
def aheadTo (t b : List UInt8) (k : Nat) : Nat := cnt (fun i => Op.bytesLess (t.drop i) b) k
def ahead (t b : List UInt8) : Nat := aheadTo t b (t.length + 1)
def rank (t : List UInt8) (i : Nat) : Nat := ahead t (t.drop i)

theorem ahead_le (t b : List UInt8) : ahead t b ≤ t.length + 1 := cnt_le _ _
theorem rank_lt (t : List UInt8) (i : Nat) (h : i ≤ t.length) : rank t i < t.length + 1 :=
  cnt_lt _ _ i (by omega) (lt_irrefl _)

/-- the order, as it is written, offset by offset -/
def ordTo (t : List UInt8) : Nat → List Nat
  | 0 => List.replicate (t.length + 1) 0
  | k + 1 => (ordTo t k).set (rank t k) k
def ord (t : List UInt8) : List Nat := ordTo t (t.length + 1)

theorem ordTo_length (t : List UInt8) : ∀ k, (ordTo t k).length = t.length + 1
  | 0 => by simp [ordTo]
  | k + 1 => by simp [ordTo, ordTo_length t k]
theorem ord_length (t : List UInt8) : (ord t).length = t.length + 1 := ordTo_length t _

theorem ordTo_lt (t : List UInt8) : ∀ k, ∀ x ∈ ordTo t k, x < k ∨ x = 0
  | 0 => by intro x hx; simp [ordTo] at hx; exact .inr hx
  | k + 1 => by
      intro x hx
      rw [ordTo] at hx
      rcases List.mem_or_eq_of_mem_set hx with h | h
      · rcases ordTo_lt t k x h with h | h <;> omega
      · omega
theorem ord_le (t : List UInt8) : ∀ x ∈ ord t, x ≤ t.length := by
  intro x hx
  rcases ordTo_lt t _ x hx with h | h <;> omega

/-- the turn, row by row, of an order l -/
def turnTo (t : List UInt8) (l : List Nat) : Nat → List UInt8 × Nat
  | 0 => ([], 0)
  | k + 1 => if l.getD k 0 = 0 then ((turnTo t l k).1, k) else ((turnTo t l k).1 ++ [t.getD (l.getD k 0 - 1) 0], (turnTo t l k).2)
def turn (t : List UInt8) : List UInt8 × Nat := turnTo t (ord t) (t.length + 1)

theorem turnTo_len (t : List UInt8) (l : List Nat) : ∀ k, (turnTo t l k).1.length ≤ k
  | 0 => Nat.le_refl _
  | k + 1 => by have := turnTo_len t l k; unfold turnTo; split <;> simp <;> omega
theorem turnTo_row (t : List UInt8) (l : List Nat) : ∀ k, (turnTo t l k).2 ≤ k
  | 0 => Nat.le_refl _
  | k + 1 => by have := turnTo_row t l k; unfold turnTo; split <;> simp <;> omega

end Go.Proofs.Ythkndfkkgncjfab.Fo

namespace Go.Proofs.Ythkndfkkgncjfab
open Go.RowKit
set_option maxRecDepth 100000

theorem ret_int {k : IntKind} {a b : Int} (h : a = b) : Ending.returned (.int k a) = .returned (.int k b) := by rw [h]
theorem ret_bool {a b : Bool} (h : a = b) : Ending.returned (.bool a) = .returned (.bool b) := by rw [h]
theorem ext_tl (s : ByteArray) (k : Nat) : (s.extract k s.size).toList = s.data.toList.drop k := by
  rw [ByteArray.toList_eq, Lib.extract_to_end]
theorem size_len (s : ByteArray) : s.data.toList.length = s.size := rfl

theorem aheadTo_succ (s b : ByteArray) (k : Nat) : Fo.aheadTo s.data.toList b.data.toList (k + 1) = Fo.aheadTo s.data.toList b.data.toList k + (if Op.bytesLess (s.extract k s.size).toList b.toList then 1 else 0) := by
  rw [ext_tl, ByteArray.toList_eq]; rfl

set_option maxHeartbeats 400000 in
theorem ahead_any (s b : ByteArray) (w : World) (hs : s.size ≤ 1000000) :
    Calls Try.prog 99 #[.string s, .string b] w fun e w' => e = .returned (.int .i64 (Fo.ahead s.data.toList b.data.toList)) ∧ w' = w := by
  go_enter Try.func99, Try.ntmps99
  go_wp2
  go_loop [5, 6] (fun n i => ∃ k : Nat, k ≤ s.size + 1 ∧ i = .int .i64 k ∧ n = .int .i64 (Fo.aheadTo s.data.toList b.data.toList k)) (fun _ i => s.size + 1 - (intOf i).toNat)
  case atStart => exact ⟨0, Nat.zero_le _, rfl, rfl⟩
  case round =>
    obtain ⟨k, hk, rfl, rfl⟩ := hrel
    have hd : Fo.aheadTo s.data.toList b.data.toList k ≤ k := Fo.cnt_le _ _
    by_cases hlt : k ≤ s.size
    · have HS : Hid (Fo.aheadTo s.data.toList b.data.toList (k + 1) = Fo.aheadTo s.data.toList b.data.toList k + (if Op.bytesLess (s.extract k s.size).toList b.toList then 1 else 0)) := aheadTo_succ s b k
      go_wp2
      all_goals
        go_round
        case rel =>
          refine ⟨k + 1, by omega, by go_num, ?_⟩
          first
            | (have hh : Op.bytesLess (s.extract k s.size).toList b.toList = true := by assumption
               rw [HS.out, hh]; simp)
            | (have hh : Op.bytesLess (s.extract k s.size).toList b.toList = false := by assumption
               rw [HS.out, hh]; simp)
        case measure => simp [intOf]; omega
    · go_wp2
      go_ret
      have e : k = s.size + 1 := by omega
      exact ⟨ret_int (by rw [e]; rfl), rfl⟩

theorem less_step (a b : List UInt8) (k : Nat) (ha : k < a.length) (hb : k < b.length) :
    Op.bytesLess (a.drop k) (b.drop k) = (decide (a[k] < b[k]) || (a[k] == b[k] && Op.bytesLess (a.drop (k + 1)) (b.drop (k + 1)))) := by
  rw [List.drop_eq_getElem_cons ha, List.drop_eq_getElem_cons hb]; rfl

theorem less_end (a b : List UInt8) (k : Nat) (ha : k ≤ a.length) (hb : k ≤ b.length) (h : ¬ (k < a.length ∧ k < b.length)) :
    Op.bytesLess (a.drop k) (b.drop k) = decide (a.length < b.length) := by
  by_cases h1 : k = a.length
  · subst h1
    rw [List.drop_length]
    by_cases h2 : a.length = b.length
    · rw [h2, List.drop_length]; simp [Op.bytesLess]
    · have : a.length < b.length := by omega
      rw [List.drop_eq_getElem_cons this]; simp [Op.bytesLess, this]
  · have : k = b.length := by omega
    subst this
    rw [List.drop_length]
    have : ¬ a.length < b.length := by omega
    simp [Op.bytesLess, this]

theorem byte_at (a : ByteArray) (k : Nat) (h : k < a.size) : a.data.toList[k]'h = a[k] := rfl

theorem less_same (a b : ByteArray) (k : Nat) (ha : k < a.size) (hb : k < b.size) (h : (((a[k].toNat : Nat) : Int) != ((b[k].toNat : Nat) : Int)) = false) :
    Op.bytesLess (a.data.toList.drop k) (b.data.toList.drop k) = Op.bytesLess (a.data.toList.drop (k + 1)) (b.data.toList.drop (k + 1)) := by
  rw [less_step _ _ k ha hb, byte_at a k ha, byte_at b k hb]
  have e : a[k] = b[k] := by
    rw [bne_eq_false_iff_eq] at h
    exact UInt8.toNat_inj.1 (by omega)
  rw [e]; simp

theorem less_diff (a b : ByteArray) (k : Nat) (ha : k < a.size) (hb : k < b.size) (h : (((a[k].toNat : Nat) : Int) != ((b[k].toNat : Nat) : Int)) = true) :
    Op.bytesLess (a.data.toList.drop k) (b.data.toList.drop k) = decide (a[k].toNat < b[k].toNat) := by
  rw [less_step _ _ k ha hb, byte_at a k ha, byte_at b k hb]
  have e : (a[k] == b[k]) = false := by
    rw [beq_eq_false_iff_ne]; intro e; rw [e] at h; simp at h
  rw [e]; simp [UInt8.lt_iff_toNat_lt]

set_option maxHeartbeats 400000 in
theorem less_any (a b : ByteArray) (w : World) (hsa : a.size ≤ 9223372036854775807) (_hsb : b.size ≤ 9223372036854775807) :
    Calls Try.prog 83 #[.string a, .string b] w fun e w' => e = .returned (.bool (Op.bytesLess a.data.toList b.data.toList)) ∧ ∃ m, w' = w.drewN m := by
  go_enter Try.func83, Try.ntmps83
  go_wp2
  go_loopw [5] (fun i wr => ∃ k : Nat, k ≤ a.size ∧ k ≤ b.size ∧ i = .int .i64 k ∧ Op.bytesLess a.data.toList b.data.toList = Op.bytesLess (a.data.toList.drop k) (b.data.toList.drop k) ∧ ∃ m, wr = w.drewN m) (fun i _ => a.size - (intOf i).toNat)
  case atStart => exact ⟨0, Nat.zero_le _, Nat.zero_le _, rfl, rfl, 0, rfl⟩
  case round =>
    obtain ⟨k, hka, hkb, rfl, he, m, rfl⟩ := hrel
    have HE : Hid (Op.bytesLess a.data.toList b.data.toList = Op.bytesLess (a.data.toList.drop k) (b.data.toList.drop k)) := he
    clear he
    by_cases hla : k < a.size
    · by_cases hlb : k < b.size
      · go_wp2
        go_quiet (fail)
        go_wp2
        · go_quiet (fail)
          go_wp2
          go_ret
          exact ⟨ret_bool (by rw [HE.out, less_diff a b k hla hlb (by assumption)]), _, by rw [World.drewN_drewN, World.drewN_drewN]⟩
        · go_roundw
          case rel => exact ⟨k + 1, by omega, by omega, by go_num, by rw [HE.out, less_same a b k hla hlb (by assumption)], _, rfl⟩
          case measure => simp [intOf]; omega
      · go_wp2
        go_ret
        exact ⟨ret_bool (by rw [HE.out, less_end _ _ k hka hkb (fun h => hlb h.2)]; rfl), m, rfl⟩
    · go_wp2
      go_ret
      exact ⟨ret_bool (by rw [HE.out, less_end _ _ k hka hkb (fun h => hla h.1)]; rfl), m, rfl⟩

end Go.Proofs.Ythkndfkkgncjfab

namespace Go.Proofs.Ythkndfkkgncjfab
open Go.RowKit
set_option maxRecDepth 100000

theorem Try.info3 : (Try.prog.info? 3).map (fun i => (i.zero, i.size, i.bytes)) = some (some (.int .i64 0), 1, 8) := by kernel_rfl
theorem Try.info5 : (Try.prog.info? 5).map (fun i => (i.zero, i.size, i.bytes)) = some (some (.int .u8 0), 1, 1) := by kernel_rfl

/-- numbers as cells -/
def I (l : List Nat) : List Value := l.map fun (n : Nat) => Value.int .i64 (n : Int)
theorem I_length (l : List Nat) : (I l).length = l.length := by simp [I]
theorem I_set (l : List Nat) (j x : Nat) : (I l).set j (.int .i64 (x : Int)) = I (l.set j x) := by simp [I, List.map_set]
theorem I_get (l : List Nat) (j : Nat) (h : j < l.length) : (I l)[j]? = some (.int .i64 (l.getD j 0 : Nat)) := by simp [I, h]

/-- the slice at the head of block g holds the numbers l, and no more -/
def OwnI (w : World) (B g : Nat) (l : List Nat) : Prop := w.ownsRow B 3 1 (.slice (some ⟨g, 0, none⟩) l.length l.length) l.length (I l)

theorem OwnI.cell {w : World} {B g : Nat} {l : List Nat} (h : OwnI w B g l) (j : Nat) (hj : j < l.length) : w.cell? ⟨g, j, none⟩ = some (.int .i64 (l.getD j 0 : Nat)) := by
  rw [World.ownsRow.cellAt h j (by omega), I_get l j hj]
theorem OwnI.free {w : World} {B g : Nat} {l : List Nat} (h : OwnI w B g l) (j : Nat) : w.frozen? ⟨g, j, none⟩ = false := World.ownsRow.frozenAt h j
theorem OwnI.base {w : World} {B g : Nat} {l : List Nat} (h : OwnI w B g l) : B ≤ g ∧ g < w.heap.size := World.ownsRow.lt h g rfl
theorem OwnI.put {w : World} {B g : Nat} {l : List Nat} (h : OwnI w B g l) (j x : Nat) : OwnI (w.setCell ⟨g, j, none⟩ (.int .i64 (x : Int))) B g (l.set j x) := by
  have := (World.ownsRow.stored h j (.int .i64 (x : Int))).1
  rw [I_set] at this
  unfold OwnI
  rw [List.length_set]
  exact this
theorem row_below {w w' : World} {B : Nat} {e : TypeId} {size : Nat} {v : Value} {n : Nat} {xs : List Value} (h : w.ownsRow B e size v n xs) (hb : Below w.heap.size w w') : w'.ownsRow B e size v n xs := by
  refine ⟨h.1, ?_⟩
  rcases h.2 with hn | ⟨g, cap, cur, rfl, hB, hg, rest⟩
  · exact .inl hn
  · exact .inr ⟨g, cap, cur, rfl, hB, by rw [hb.block g (Array.getElem?_eq_some_iff.1 hg).1]; exact hg, rest⟩
theorem OwnI.weaken {w : World} {B C g : Nat} {l : List Nat} (h : OwnI w B g l) (hc : C ≤ B) : OwnI w C g l := by
  refine ⟨h.1, ?_⟩
  rcases h.2 with hn | ⟨g1, cap, cur, e, hB, rest⟩
  · exact .inl hn
  · exact .inr ⟨g1, cap, cur, e, Nat.le_trans hc hB, rest⟩
theorem OwnI.below {w w' : World} {B g : Nat} {l : List Nat} (h : OwnI w B g l) (hb : Below w.heap.size w w') : OwnI w' B g l := row_below h hb

theorem made_zero {w : World} {B g n : Nat} (h : w.ownsRow B 3 1 (.slice (some ⟨g, 0, none⟩) n n) n (madeCells (Value.int .i64 0).cells (n * 1)).toList) : OwnI w B g (List.replicate n 0) := by
  have e : (madeCells (Value.int .i64 0).cells (n * 1)).toList = I (List.replicate n 0) := by
    rw [Nat.mul_one]
    show (madeCells #[Value.int .i64 0] n).toList = _
    rw [toList_madeCells_one]; simp [I]
  unfold OwnI
  rw [List.length_replicate, ← e]; exact h

set_option maxHeartbeats 400000 in
theorem order_any (s : ByteArray) (w : World) (hs : s.size ≤ 1000000) :
    Calls Try.prog 75 #[.string s] w fun e w' => ∃ g, e = .returned (.slice (some ⟨g, 0, none⟩) (s.size + 1) (s.size + 1)) ∧ OwnI w' w.heap.size g (Fo.ord s.data.toList) ∧ Below w.heap.size w w' := by
  obtain ⟨i0, hi, hz0, hz1, hz2⟩ := info_parts Try.info3
  go_enter Try.func75, Try.ntmps75
  go_wp2_with (at_make; refine wpList_make_full _ rfl _ _ 35 rfl w.heap.size 3 i0 (.int .i64 0) 1 Try.underlying35 hi hz0 hz1 .i64 .i64 _ _ (s.size + 1) rfl rfl (by omega) (by omega) (by rw [hz2]; omega) (by unfold maxLen; omega) (Nat.le_refl _) ?_; intro w0 hown0 hgrow0)
  go_loopw [4] (fun i wr => ∃ k : Nat, k ≤ s.size + 1 ∧ i = .int .i64 k ∧ OwnI wr w.heap.size w.heap.size (Fo.ordTo s.data.toList k) ∧ Below w.heap.size w wr) (fun i _ => s.size + 1 - (intOf i).toNat)
  case atStart => exact ⟨0, Nat.zero_le _, rfl, made_zero hown0, (Below.refl _ _).grown hgrow0 (Nat.le_refl _) (by simp)⟩
  case round =>
    obtain ⟨k, hk, rfl, hown, hbl⟩ := hrel
    clear hown0 hgrow0
    have hl : (Fo.ordTo s.data.toList k).length = s.size + 1 := Fo.ordTo_length _ _
    by_cases hlt : k ≤ s.size
    · obtain ⟨r, hr⟩ : ∃ r, Fo.rank s.data.toList k = r := ⟨_, rfl⟩
      have hrl : r < s.size + 1 := by rw [← hr]; exact Fo.rank_lt _ _ hlt
      have HR : Hid (Fo.rank s.data.toList k = r) := hr
      clear hr
      have hc := hown.cell r (by omega)
      have hf := hown.free r
      have hp := hown.put r k
      go_wp2_with (go_at_call 99; refine (ahead_any _ _ _ hs).mono ?_; rintro e w' ⟨he, rfl⟩; rw [Lib.extract_to_end, show Fo.ahead s.data.toList (s.data.toList.drop k) = r from HR.out] at he; subst he)
      go_roundw
      case rel => exact ⟨k + 1, by omega, by go_num, by rw [Fo.ordTo, HR.out]; exact hp, hbl.setCell (Nat.le_refl _) _⟩
      case measure => simp [intOf]; omega
    · go_wp2
      go_ret
      have e : k = s.size + 1 := by omega
      exact ⟨_, rfl, by rw [e] at hown; exact hown, hbl⟩

theorem ext_le (s : ByteArray) (j : Nat) (hs : s.size ≤ 1000000) : (s.extract j s.size).size ≤ 9223372036854775807 := by
  rw [ByteArray.size_extract]; omega
theorem less_at (a b : ByteArray) (q : Bool) (h : Op.bytesLess a.data.toList b.data.toList = q) (w : World) (hsa : a.size ≤ 9223372036854775807) (hsb : b.size ≤ 9223372036854775807) :
    Calls Try.prog 83 #[.string a, .string b] w fun e w' => e = .returned (.bool q) ∧ ∃ m, w' = w.drewN m := by
  rw [← h]; exact less_any a b w hsa hsb

theorem aheadTo_succ' (t : List UInt8) (i k : Nat) : Fo.aheadTo t (t.drop i) (k + 1) = Fo.aheadTo t (t.drop i) k + (if Op.bytesLess (t.drop k) (t.drop i) then 1 else 0) := rfl

set_option maxHeartbeats 1000000 in
theorem ref_order_any (s : ByteArray) (w : World) (hs : s.size ≤ 1000000) :
    Calls Try.prog 76 #[.string s] w fun e w' => ∃ g, e = .returned (.slice (some ⟨g, 0, none⟩) (s.size + 1) (s.size + 1)) ∧ OwnI w' w.heap.size g (Fo.ord s.data.toList) ∧ Below w.heap.size w w' := by
  obtain ⟨i0, hi, hz0, hz1, hz2⟩ := info_parts Try.info3
  go_enter Try.func76, Try.ntmps76
  go_wp2_with (at_make; refine wpList_make_full _ rfl _ _ 35 rfl w.heap.size 3 i0 (.int .i64 0) 1 Try.underlying35 hi hz0 hz1 .i64 .i64 _ _ (s.size + 1) rfl rfl (by omega) (by omega) (by rw [hz2]; omega) (by unfold maxLen; omega) (Nat.le_refl _) ?_; intro w0 hown0 hgrow0)
  go_loopw [5] (fun i wr => ∃ k : Nat, k ≤ s.size + 1 ∧ i = .int .i64 k ∧ OwnI wr w.heap.size w.heap.size (Fo.ordTo s.data.toList k) ∧ Below w.heap.size w wr) (fun i _ => s.size + 1 - (intOf i).toNat)
  case atStart => exact ⟨0, Nat.zero_le _, rfl, made_zero hown0, (Below.refl _ _).grown hgrow0 (Nat.le_refl _) (by simp)⟩
  case round =>
    obtain ⟨k, hk, rfl, hown, hbl⟩ := hrel
    obtain ⟨w1, hw1⟩ : ∃ w1, w1 = wr := ⟨_, rfl⟩
    subst hw1
    clear hown0 hgrow0
    have hl : (Fo.ordTo s.data.toList k).length = s.size + 1 := Fo.ordTo_length _ _
    by_cases hlt : k ≤ s.size
    · obtain ⟨r, hr⟩ : ∃ r, Fo.rank s.data.toList k = r := ⟨_, rfl⟩
      have hrl : r < s.size + 1 := by rw [← hr]; exact Fo.rank_lt _ _ hlt
      have HR : Hid (Fo.rank s.data.toList k = r) := hr
      clear hr
      go_wp2
      go_loopw [6, 7] (fun n i wr => ∃ j : Nat, j ≤ s.size + 1 ∧ i = .int .i64 j ∧ n = .int .i64 (Fo.aheadTo s.data.toList (s.data.toList.drop k) j) ∧ ∃ m, wr = w1.drewN m) (fun _ i _ => s.size + 1 - (intOf i).toNat)
      case atStart => exact ⟨0, Nat.zero_le _, rfl, rfl, 0, rfl⟩
      case round =>
        obtain ⟨j, hj, rfl, rfl, hwi⟩ := hrel
        have HW : Hid (∃ m, wr = w1.drewN m) := hwi
        clear hwi
        have hd : Fo.aheadTo s.data.toList (s.data.toList.drop k) j ≤ j := Fo.cnt_le _ _
        by_cases hjt : j ≤ s.size
        · obtain ⟨q, hq⟩ : ∃ q, Op.bytesLess (s.data.toList.drop j) (s.data.toList.drop k) = q := ⟨_, rfl⟩
          have HQ : Hid (Op.bytesLess (s.extract j s.size).data.toList (s.extract k s.size).data.toList = q) := by rw [Lib.extract_to_end, Lib.extract_to_end]; exact hq
          have HS : Hid (Fo.aheadTo s.data.toList (s.data.toList.drop k) (j + 1) = Fo.aheadTo s.data.toList (s.data.toList.drop k) j + (if q then 1 else 0)) := by have h := aheadTo_succ' s.data.toList k j; rw [hq] at h; exact h
          clear hq
          go_wp2
          go_quiet ((go_at_call 83; exact Calls.quiet_of (less_at _ _ q HQ.out _ (ext_le s j hs) (ext_le s k hs))))
          cases q
          all_goals
            go_wp2
            go_roundw
            case rel => exact ⟨j + 1, by omega, by go_num, by rw [HS.out]; simp, by obtain ⟨m, hm⟩ := HW.out; exact ⟨m + nq, by rw [hm, World.drewN_drewN]⟩⟩
            case measure => simp [intOf]; omega
        · have hje : j = s.size + 1 := by omega
          subst hje
          rw [show Fo.aheadTo s.data.toList (s.data.toList.drop k) (s.size + 1) = r from HR.out] at *
          have hown2 : OwnI wr w.heap.size w.heap.size (Fo.ordTo s.data.toList k) := by obtain ⟨m, hm⟩ := HW.out; rw [hm]; exact hown.below (below_drewN (Below.refl _ _) _)
          have hbl2 : Below w.heap.size w wr := by obtain ⟨m, hm⟩ := HW.out; rw [hm]; exact below_drewN hbl m
          have hc := hown2.cell r (by omega)
          have hf := hown2.free r
          have hp := hown2.put r k
          go_wp2
          go_roundw
          case rel => exact ⟨k + 1, by omega, by go_num, by rw [Fo.ordTo, HR.out]; exact hp, hbl2.setCell (Nat.le_refl _) _⟩
          case measure => simp [intOf]; omega
    · go_wp2
      go_ret
      have e : k = s.size + 1 := by omega
      exact ⟨_, rfl, by rw [e] at hown; exact hown, hbl⟩

end Go.Proofs.Ythkndfkkgncjfab

namespace Go.Proofs.Ythkndfkkgncjfab
open Go.RowKit
set_option maxRecDepth 100000

/-- bytes as cells -/
def U (l : List UInt8) : List Value := l.map fun (b : UInt8) => Value.int .u8 (b.toNat : Int)
theorem U_length (l : List UInt8) : (U l).length = l.length := by simp [U]
theorem U_append (l : List UInt8) (b : UInt8) : U l ++ [.int .u8 (b.toNat : Int)] = U (l ++ [b]) := by simp [U]
def OwnU (w : World) (B : Nat) (v : Value) (l : List UInt8) : Prop := w.ownsRow B 5 1 v l.length (U l)
theorem OwnU.below {w w' : World} {B : Nat} {v : Value} {l : List UInt8} (h : OwnU w B v l) (hb : Below w.heap.size w w') : OwnU w' B v l := row_below h hb

theorem OwnU.string {w : World} {B : Nat} {v : Value} {l : List UInt8} (h : OwnU w B v l) : (convert 143 9 v).run Try.prog w = .ok (.string ⟨l.toArray⟩) w := by
  rcases h.2 with ⟨rfl, hn⟩ | ⟨g, cap, cur, rfl, hB, hg, rest⟩
  · have : l = [] := by simpa [U] using hn
    subst this
    rw [run_convert_bytes_nil w 143 5 Try.underlying143 Try.underlying5 0 0 9 Try.underlying9]; rfl
  · refine run_convert_bytes_back w 143 9 5 ⟨g, 0, none⟩ cap l Try.underlying143 Try.underlying5 Try.underlying9 (fun j hj => ?_)
    have hc := World.ownsRow.cells h (g := g) rfl j (.int .u8 (l[j].toNat : Int)) (by simp [U, hj])
    exact hc

theorem apart_rows {w : World} {B g : Nat} {l : List Nat} {v : Value} {m : List UInt8} (h : OwnI w B g l) (k : OwnU w B v m) : v.ownBlock ≠ some g := by
  intro e
  rcases h.2 with ⟨h1, _⟩ | ⟨g1, cap1, cur1, h1, _, hg1, _⟩
  · simp at h1
  · rcases k.2 with ⟨h2, _⟩ | ⟨g2, cap2, cur2, h2, _, hg2, _⟩
    · rw [h2] at e; simp [Value.ownBlock] at e
    · rw [h2] at e
      simp [Value.ownBlock] at e
      simp at h1
      rw [e, h1.1, hg1] at hg2
      simp at hg2
theorem OwnI.grown {w w' : World} {B g : Nat} {l : List Nat} {row : Option Nat} (h : OwnI w B g l) (hg : w.grownBy w' row) (hne : row ≠ some g) : OwnI w' B g l :=
  World.ownsRow.kept h hg (.inr (fun e => hne (by rw [← e]; rfl)))

/-- one byte more -/
theorem turn_step {w w1 w0 : World} {B g : Nat} {l : List Nat} {v v' : Value} {m : List UInt8} {b : UInt8} {o : Obj} (hown : OwnI w B g l) (hu : OwnU w B v m) (hbl : Below B w0 w) (hB : B ≤ w.heap.size)
    (h1 : w1.ownsRow B 5 1 v' (m.length + 1) (U m ++ [.int .u8 (b.toNat : Int)])) (h2 : (w.alloc o).grownBy w1 v.ownBlock) : OwnI w1 B g l ∧ OwnU w1 B v' (m ++ [b]) ∧ Below B w0 w1 := by
  have hown' : OwnI (w.alloc o) B g l := World.ownsRow.alloc hown o
  have hu' : OwnU (w.alloc o) B v m := World.ownsRow.alloc hu o
  refine ⟨hown'.grown h2 (apart_rows hown' hu'), ?_, (hbl.alloc hB o).grown h2 (by simp; omega) (fun k hk => (World.ownsRow.lt hu k hk).1)⟩
  rw [U_append] at h1
  unfold OwnU
  simpa using h1

theorem turnTo_zero {t : List UInt8} {l : List Nat} {k : Nat} (h : l.getD k 0 = 0) : Fo.turnTo t l (k + 1) = ((Fo.turnTo t l k).1, k) := by rw [Fo.turnTo, if_pos h]
theorem turnTo_pos {t : List UInt8} {l : List Nat} {k y : Nat} (h : l.getD k 0 = y + 1) : Fo.turnTo t l (k + 1) = ((Fo.turnTo t l k).1 ++ [t.getD y 0], (Fo.turnTo t l k).2) := by rw [Fo.turnTo, if_neg (by omega), h]; rfl

theorem getD_byte (s : ByteArray) (y : Nat) (h : y < s.size) : s.data.toList.getD y 0 = s[y] := by
  rw [List.getD_eq_getElem?_getD, List.getElem?_eq_getElem h]; rfl

set_option maxHeartbeats 1000000 in
theorem turn_any (s : ByteArray) (w : World) (hs : s.size ≤ 1000000) :
    Calls Try.prog 77 #[.string s] w fun e w' => e = .returned (.tuple #[.string ⟨(Fo.turn s.data.toList).1.toArray⟩, .int .i64 ((Fo.turn s.data.toList).2 : Nat)]) ∧ Below w.heap.size w w' := by
  obtain ⟨i0, hi, hz0, hz1, hz2⟩ := info_parts Try.info5
  go_enter Try.func77, Try.ntmps77
  go_wp2_with (first | (go_at_call 75; refine (order_any _ _ hs).mono ?_; rintro e w1 ⟨g, rfl, hown, hbl⟩) | (at_make; refine wpList_make_own _ rfl _ _ 143 rfl w.heap.size 5 i0 (.int .u8 0) 1 Try.underlying143 hi hz0 hz1 .i64 .i64 _ s.size rfl rfl (by omega) (by rw [hz2]; omega) (by unfold maxLen; omega) hbl.size ?_; intro w2 hown2 hgrow2))
  have hown' : OwnI w2 w.heap.size g (Fo.ord s.data.toList) := hown.grown hgrow2 (by simp)
  have hbl' : Below w.heap.size w w2 := hbl.grown hgrow2 hbl.size (by simp)
  have hu' : OwnU w2 w.heap.size (.slice (some ⟨w1.heap.size, 0, none⟩) 0 s.size) [] := hown2
  have hol : (Fo.ord s.data.toList).length = s.size + 1 := Fo.ord_length _
  clear hown hgrow2 hbl hown2
  go_loopw [5, 6, 16] (fun v h i wr => ∃ k : Nat, k ≤ s.size + 1 ∧ i = .int .i64 k ∧ h = .int .i64 ((Fo.turnTo s.data.toList (Fo.ord s.data.toList) k).2 : Nat) ∧
      OwnU wr w.heap.size v (Fo.turnTo s.data.toList (Fo.ord s.data.toList) k).1 ∧ OwnI wr w.heap.size g (Fo.ord s.data.toList) ∧ Below w.heap.size w wr) (fun _ _ i _ => s.size + 1 - (intOf i).toNat)
  case atStart => exact ⟨0, Nat.zero_le _, rfl, rfl, hu', hown', hbl'⟩
  case round =>
    obtain ⟨k, hk, rfl, rfl, hu, ho, hb⟩ := hrel
    clear hown' hu' hbl'
    by_cases hlt : k < s.size + 1
    · have hc := ho.cell k (by omega)
      have hle : (Fo.ord s.data.toList).getD k 0 ≤ s.size := by
        refine Fo.ord_le s.data.toList _ ?_
        rw [List.getD_eq_getElem?_getD, List.getElem?_eq_getElem (by omega)]; exact List.getElem_mem _
      have hrow := Fo.turnTo_row s.data.toList (Fo.ord s.data.toList) k
      have hlen := Fo.turnTo_len s.data.toList (Fo.ord s.data.toList) k
      obtain ⟨x, hx⟩ : ∃ x, (Fo.ord s.data.toList).getD k 0 = x := ⟨_, rfl⟩
      rw [hx] at hc hle
      have HX : Hid ((Fo.ord s.data.toList).getD k 0 = x) := hx
      clear hx
      cases x with
      | zero =>
        go_wp2
        go_roundw
        case rel => exact ⟨k + 1, by omega, by go_num, by rw [turnTo_zero HX.out], by rw [turnTo_zero HX.out]; exact hu, ho, hb⟩
        case measure => simp [intOf]; omega
      | succ y =>
        have hc' : wr.cell? ⟨g, k, none⟩ = some (.int .i64 ((y : Int) + 1)) := by rw [hc]; simp
        clear hc
        have hne : (((y : Int) + 1) == 0) = false := by rw [beq_eq_false_iff_ne]; omega
        have hys : y < s.size := by omega
        go_wp2_with (at_builtin; refine wpList_append_own _ rfl _ _ 143 rfl w.heap.size 5 i0 (.int .u8 0) 1 1 Try.underlying143 hi hz0 hz1 hz2 rfl (by decide) _ _ _ rfl (World.ownsRow.alloc hu _) ⟨wr.heap.size, 0, none⟩ 1 1 [.int .u8 (s[y].toNat : Int)] rfl rfl (cell_one_new _ _ _) (by intro u hu2; simp at hu2; subst hu2; rfl) (by unfold maxLen; omega) (by omega) (by have := hb.size; simp; omega) ?_; intro v' w3 hown3 hgrow3 _)
        have R := turn_step ho hu hb hb.size hown3 hgrow3
        clear hown3 hgrow3 hu ho hb
        go_wp2
        go_roundw
        case rel => exact ⟨k + 1, by omega, by go_num, by rw [turnTo_pos HX.out], by rw [turnTo_pos HX.out]; rw [getD_byte s y hys]; exact R.2.1, R.1, R.2.2⟩
        case measure => simp [intOf]; omega
    · have hke : k = s.size + 1 := by omega
      subst hke
      have hst := hu.string
      go_wp2
      go_ret2
      exact ⟨rfl, hb⟩

set_option maxHeartbeats 1000000 in
theorem ref_turn_any (s : ByteArray) (w : World) (hs : s.size ≤ 1000000) :
    Calls Try.prog 78 #[.string s] w fun e w' => e = .returned (.tuple #[.string ⟨(Fo.turn s.data.toList).1.toArray⟩, .int .i64 ((Fo.turn s.data.toList).2 : Nat)]) ∧ Below w.heap.size w w' := by
  obtain ⟨i0, hi, hz0, hz1, hz2⟩ := info_parts Try.info5
  go_enter Try.func78, Try.ntmps78
  go_wp2_with (go_at_call 76; refine (ref_order_any _ _ hs).mono ?_; rintro e w2 ⟨g, rfl, hown', hbl'⟩)
  have hu' : OwnU w2 w.heap.size (.slice none 0 0) [] := World.ownsRow_nil _ _ _ _
  have hol : (Fo.ord s.data.toList).length = s.size + 1 := Fo.ord_length _
  go_loopw [5, 6, 7] (fun v h i wr => ∃ k : Nat, k ≤ s.size + 1 ∧ i = .int .i64 k ∧ h = .int .i64 ((Fo.turnTo s.data.toList (Fo.ord s.data.toList) k).2 : Nat) ∧
      OwnU wr w.heap.size v (Fo.turnTo s.data.toList (Fo.ord s.data.toList) k).1 ∧ OwnI wr w.heap.size g (Fo.ord s.data.toList) ∧ Below w.heap.size w wr) (fun _ _ i _ => s.size + 1 - (intOf i).toNat)
  case atStart => exact ⟨0, Nat.zero_le _, rfl, rfl, hu', hown', hbl'⟩
  case round =>
    obtain ⟨k, hk, rfl, rfl, hu, ho, hb⟩ := hrel
    clear hown' hu' hbl'
    by_cases hlt : k < s.size + 1
    · have hc := ho.cell k (by omega)
      have hle : (Fo.ord s.data.toList).getD k 0 ≤ s.size := by
        refine Fo.ord_le s.data.toList _ ?_
        rw [List.getD_eq_getElem?_getD, List.getElem?_eq_getElem (by omega)]; exact List.getElem_mem _
      have hrow := Fo.turnTo_row s.data.toList (Fo.ord s.data.toList) k
      have hlen := Fo.turnTo_len s.data.toList (Fo.ord s.data.toList) k
      obtain ⟨x, hx⟩ : ∃ x, (Fo.ord s.data.toList).getD k 0 = x := ⟨_, rfl⟩
      rw [hx] at hc hle
      have HX : Hid ((Fo.ord s.data.toList).getD k 0 = x) := hx
      clear hx
      cases x with
      | zero =>
        go_wp2
        go_roundw
        case rel => exact ⟨k + 1, by omega, by go_num, by rw [turnTo_zero HX.out], by rw [turnTo_zero HX.out]; exact hu, ho, hb⟩
        case measure => simp [intOf]; omega
      | succ y =>
        have hc' : wr.cell? ⟨g, k, none⟩ = some (.int .i64 ((y : Int) + 1)) := by rw [hc]; simp
        clear hc
        have hne : (((y : Int) + 1) == 0) = false := by rw [beq_eq_false_iff_ne]; omega
        have hys : y < s.size := by omega
        go_wp2_with (at_builtin; refine wpList_append_own _ rfl _ _ 143 rfl w.heap.size 5 i0 (.int .u8 0) 1 1 Try.underlying143 hi hz0 hz1 hz2 rfl (by decide) _ _ _ rfl (World.ownsRow.alloc hu _) ⟨wr.heap.size, 0, none⟩ 1 1 [.int .u8 (s[y].toNat : Int)] rfl rfl (cell_one_new _ _ _) (by intro u hu2; simp at hu2; subst hu2; rfl) (by unfold maxLen; omega) (by omega) (by have := hb.size; simp; omega) ?_; intro v' w3 hown3 hgrow3 _)
        have R := turn_step ho hu hb hb.size hown3 hgrow3
        clear hown3 hgrow3 hu ho hb
        go_wp2
        go_roundw
        case rel => exact ⟨k + 1, by omega, by go_num, by rw [turnTo_pos HX.out], by rw [turnTo_pos HX.out]; rw [getD_byte s y hys]; exact R.2.1, R.1, R.2.2⟩
        case measure => simp [intOf]; omega
    · have hke : k = s.size + 1 := by omega
      subst hke
      have hst := hu.string
      go_wp2
      go_ret2
      exact ⟨rfl, hb⟩

end Go.Proofs.Ythkndfkkgncjfab

namespace Go.Proofs.Ythkndfkkgncjfab
open Go.RowKit
set_option maxRecDepth 100000

/-- a text as a value -/
def S (l : List UInt8) : Value := .string ⟨l.toArray⟩

set_option maxHeartbeats 400000 in
theorem Order_ok (s : ByteArray) (w : World) (hs : s.size ≤ 120) :
    Calls Try.prog 45 #[.string s] w fun e w' => ∃ g, e = .returned (.tuple #[.slice (some ⟨g, 0, none⟩) (s.size + 1) (s.size + 1), .int .i64 0]) ∧ OwnI w' w.heap.size g (Fo.ord s.data.toList) ∧ Below w.heap.size w w' := by
  go_enter Try.func45, Try.ntmps45
  go_wp2_with (go_at_call 75; refine (order_any _ _ (by omega)).mono ?_; rintro e w1 ⟨g, rfl, hown, hbl⟩)
  go_ret2
  exact ⟨g, rfl, hown, hbl⟩
set_option maxHeartbeats 400000 in
theorem Order_long (s : ByteArray) (w : World) (hs : 120 < s.size) :
    Calls Try.prog 45 #[.string s] w fun e w' => e = .returned (.tuple #[.slice none 0 0, .int .i64 2]) ∧ w' = w := by
  go_enter Try.func45, Try.ntmps45
  go_wp2
  go_ret2
  exact ⟨rfl, rfl⟩
set_option maxHeartbeats 400000 in
theorem rOrder_ok (s : ByteArray) (w : World) (hs : s.size ≤ 120) :
    Calls Try.prog 46 #[.string s] w fun e w' => ∃ g, e = .returned (.tuple #[.slice (some ⟨g, 0, none⟩) (s.size + 1) (s.size + 1), .int .i64 0]) ∧ OwnI w' w.heap.size g (Fo.ord s.data.toList) ∧ Below w.heap.size w w' := by
  go_enter Try.func46, Try.ntmps46
  go_wp2_with (go_at_call 76; refine (ref_order_any _ _ (by omega)).mono ?_; rintro e w1 ⟨g, rfl, hown, hbl⟩)
  go_ret2
  exact ⟨g, rfl, hown, hbl⟩
set_option maxHeartbeats 400000 in
theorem rOrder_long (s : ByteArray) (w : World) (hs : 120 < s.size) :
    Calls Try.prog 46 #[.string s] w fun e w' => e = .returned (.tuple #[.slice none 0 0, .int .i64 2]) ∧ w' = w := by
  go_enter Try.func46, Try.ntmps46
  go_wp2
  go_ret2
  exact ⟨rfl, rfl⟩

set_option maxHeartbeats 400000 in
theorem Turn_ok (s : ByteArray) (w : World) (hs : s.size ≤ 120) :
    Calls Try.prog 49 #[.string s] w fun e w' => e = .returned (.tuple #[S (Fo.turn s.data.toList).1, .int .i64 ((Fo.turn s.data.toList).2 : Nat), .int .i64 0]) ∧ Below w.heap.size w w' := by
  go_enter Try.func49, Try.ntmps49
  go_wp2_with (go_at_call 77; refine (turn_any _ _ (by omega)).mono ?_; rintro e w1 ⟨rfl, hbl⟩)
  go_ret3
  exact ⟨rfl, hbl⟩
set_option maxHeartbeats 400000 in
theorem Turn_long (s : ByteArray) (w : World) (hs : 120 < s.size) :
    Calls Try.prog 49 #[.string s] w fun e w' => e = .returned (.tuple #[S [], .int .i64 0, .int .i64 2]) ∧ w' = w := by
  go_enter Try.func49, Try.ntmps49
  go_wp2
  go_ret3
  exact ⟨rfl, rfl⟩
set_option maxHeartbeats 400000 in
theorem rTurn_ok (s : ByteArray) (w : World) (hs : s.size ≤ 120) :
    Calls Try.prog 50 #[.string s] w fun e w' => e = .returned (.tuple #[S (Fo.turn s.data.toList).1, .int .i64 ((Fo.turn s.data.toList).2 : Nat), .int .i64 0]) ∧ Below w.heap.size w w' := by
  go_enter Try.func50, Try.ntmps50
  go_wp2_with (go_at_call 78; refine (ref_turn_any _ _ (by omega)).mono ?_; rintro e w1 ⟨rfl, hbl⟩)
  go_ret3
  exact ⟨rfl, hbl⟩
set_option maxHeartbeats 400000 in
theorem rTurn_long (s : ByteArray) (w : World) (hs : 120 < s.size) :
    Calls Try.prog 50 #[.string s] w fun e w' => e = .returned (.tuple #[S [], .int .i64 0, .int .i64 2]) ∧ w' = w := by
  go_enter Try.func50, Try.ntmps50
  go_wp2
  go_ret3
  exact ⟨rfl, rfl⟩

set_option maxHeartbeats 400000 in
theorem num_any (n : Int) (w : World) : Calls Try.prog 33 #[.int .i64 n] w fun e w' => e = .returned (.int .i64 n) ∧ w' = w := by
  go_enter Try.func33, Try.ntmps33
  go_wp2
  go_ret
  exact ⟨rfl, rfl⟩

set_option maxHeartbeats 400000 in
theorem same_nil (w : World) : Calls Try.prog 47 #[.slice none 0 0, .slice none 0 0] w fun e w' => e = .returned (.bool true) ∧ w' = w := by
  go_enter Try.func47, Try.ntmps47
  go_wp2
  refine wp_loop_rounds 1 ?_
  rw [rounds_succ]
  go_wp2
  go_ret
  exact ⟨rfl, rfl⟩

set_option maxHeartbeats 400000 in
theorem same_ok (B C g h : Nat) (l : List Nat) (w : World) (hl : l.length ≤ 1000000) (ho : OwnI w B g l) (hr : OwnI w C h l) :
    Calls Try.prog 47 #[.slice (some ⟨g, 0, none⟩) l.length l.length, .slice (some ⟨h, 0, none⟩) l.length l.length] w fun e w' => e = .returned (.bool true) ∧ Below w.heap.size w w' := by
  go_enter Try.func47, Try.ntmps47
  go_wp2
  go_loopw [5] (fun i wr => ∃ k : Nat, k ≤ l.length ∧ i = .int .i64 k ∧ OwnI wr B g l ∧ OwnI wr C h l ∧ Below w.heap.size w wr) (fun i _ => l.length - (intOf i).toNat)
  case atStart => exact ⟨0, Nat.zero_le _, rfl, ho, hr, Below.refl _ _⟩
  case round =>
    obtain ⟨k, hk, rfl, ho1, hr1, hb⟩ := hrel
    clear ho hr
    by_cases hlt : k < l.length
    · have c1 := ho1.cell k hlt
      have c2 := hr1.cell k hlt
      obtain ⟨x, hx⟩ : ∃ x, l.getD k 0 = x := ⟨_, rfl⟩
      rw [hx] at c1 c2
      clear hx
      have hn : ((x : Int) != (x : Int)) = false := by simp
      go_wp2
      go_quiet (fail)
      go_wp2
      go_roundw
      case rel => exact ⟨k + 1, by omega, by go_num, ho1.below (below_drewN (Below.refl _ _) _), hr1.below (below_drewN (Below.refl _ _) _), below_drewN hb _⟩
      case measure => simp [intOf]; omega
    · go_wp2
      go_ret
      exact ⟨rfl, hb⟩

end Go.Proofs.Ythkndfkkgncjfab

namespace Go.Proofs.Ythkndfkkgncjfab.Fo

/-- no n + 1 numbers below n are all different -/
theorem pigeon : ∀ (n : Nat) (f : Nat → Nat), (∀ i, i ≤ n → f i < n) → (∀ i j, i ≤ n → j ≤ n → f i = f j → i = j) → False
  | 0, f, h, _ => by have := h 0 (Nat.le_refl _); omega
  | n + 1, f, h, inj => by
      refine pigeon n (fun i => if f i = n then f (n + 1) else f i) ?_ ?_
      · intro i hi
        have h1 := h i (by omega)
        have h2 := h (n + 1) (Nat.le_refl _)
        by_cases e : f i = n
        · simp only [e, if_true]
          have : f (n + 1) ≠ n := fun e2 => by have := inj i (n + 1) (by omega) (by omega) (by omega); omega
          omega
        · simp only [e, if_false]; omega
      · intro i j hi hj he
        by_cases e1 : f i = n <;> by_cases e2 : f j = n
        · exact inj i j (by omega) (by omega) (by omega)
        · simp only [e1, e2, if_true, if_false] at he
          have := inj (n + 1) j (by omega) (by omega) he; omega
        · simp only [e1, e2, if_true, if_false] at he
          have := inj i (n + 1) (by omega) (by omega) he; omega
        · simp only [e1, e2, if_false] at he
          exact inj i j (by omega) (by omega) he

theorem cnt_other (p q : Nat → Bool) : ∀ n k, k < n → (∀ i, i < n → i ≠ k → p i = q i) → cnt p n + (if q k then 1 else 0) = cnt q n + (if p k then 1 else 0)
  | n + 1, k, hk, h => by
      unfold cnt
      by_cases e : k = n
      · subst e
        rw [cnt_congr p q k (fun i hi => h i (by omega) (by omega))]; omega
      · have h1 := cnt_other p q n k (by omega) (fun i hi hne => h i (by omega) hne)
        have h2 := h n (by omega) (fun e2 => e e2.symm)
        rw [h2]; omega

/-- counting is the same over a rearrangement -/
theorem cnt_perm : ∀ (n : Nat) (f : Nat → Nat) (p : Nat → Bool), (∀ i, i < n → f i < n) → (∀ i j, i < n → j < n → f i = f j → i = j) → cnt (fun k => p (f k)) n = cnt p n
  | 0, _, _, _, _ => rfl
  | n + 1, f, p, h, inj => by
      by_cases e : f n = n
      · have h1 := cnt_perm n f p (fun i hi => by have h2 := h i (by omega); have : f i ≠ n := fun e2 => by have := inj i n (by omega) (by omega) (by omega); omega
                                                  omega) (fun i j hi hj => inj i j (by omega) (by omega))
        show cnt (fun k => p (f k)) n + (if p (f n) then 1 else 0) = cnt p n + (if p n then 1 else 0)
        rw [h1, e]
      · have hn := h n (by omega)
        have hex : ∃ i0, i0 < n ∧ f i0 = n := by
          refine Classical.byContradiction fun hno => pigeon n f (fun i hi => ?_) (fun i j hi hj => inj i j (by omega) (by omega))
          have := h i (by omega)
          have h3 : f i ≠ n := fun e2 => by
            by_cases hin : i = n
            · subst hin; exact e e2
            · exact hno ⟨i, by omega, e2⟩
          omega
        obtain ⟨i0, hi0, hf0⟩ := hex
        have h1 := cnt_perm n (fun i => if f i = n then f n else f i) p
          (fun i hi => by
            have := h i (by omega)
            by_cases e1 : f i = n
            · simp only [e1, if_true]; omega
            · simp only [e1, if_false]; omega)
          (fun i j hi hj he => by
            by_cases e1 : f i = n <;> by_cases e2 : f j = n
            · exact inj i j (by omega) (by omega) (by omega)
            · simp only [e1, e2, if_true, if_false] at he
              have := inj n j (by omega) (by omega) he; omega
            · simp only [e1, e2, if_true, if_false] at he
              have := inj i n (by omega) (by omega) he; omega
            · simp only [e1, e2, if_false] at he
              exact inj i j (by omega) (by omega) he)
        have h2 := cnt_other (fun k => p (f k)) (fun k => p (if f k = n then f n else f k)) n i0 hi0 (fun i hi hne => by
          have : f i ≠ n := fun e2 => hne (inj i i0 (by omega) (by omega) (by omega))
          simp only [this, if_false])
        simp only [hf0, if_true] at h2
        simp only [cnt]
        rw [h1] at h2
        omega

theorem cnt_lt_id : ∀ n m, m ≤ n → cnt (fun k => decide (k < m)) n = m
  | 0, m, h => by have : m = 0 := by omega
                  subst this; rfl
  | n + 1, m, h => by
      unfold cnt
      by_cases e : m = n + 1
      · subst e
        have : cnt (fun k => decide (k < n + 1)) n = cnt (fun k => decide (k < n)) n := cnt_congr _ _ n (fun i hi => by simp [hi]; omega)
        rw [this, cnt_lt_id n n (Nat.le_refl _)]; simp
      · rw [cnt_lt_id n m (by omega)]
        have : ¬ n < m := by omega
        simp [this]

theorem surj (n : Nat) (f : Nat → Nat) (h : ∀ i, i < n → f i < n) (inj : ∀ i j, i < n → j < n → f i = f j → i = j) (r : Nat) (hr : r < n) : ∃ i, i < n ∧ f i = r := by
  refine Classical.byContradiction fun hno => pigeon n (fun i => if i = n then r else f i) (fun i hi => ?_) (fun i j hi hj he => ?_)
  · by_cases e : i = n
    · simp only [e, if_true]; exact hr
    · simp only [e, if_false]; exact h i (by omega)
  · by_cases e1 : i = n <;> by_cases e2 : j = n
    · omega
    · simp only [e1, e2, if_true, if_false] at he
      exact absurd ⟨j, by omega, he.symm⟩ hno
    · simp only [e1, e2, if_true, if_false] at he
      exact absurd ⟨i, by omega, he⟩ hno
    · simp only [e1, e2, if_false] at he
      exact inj i j (by omega) (by omega) he

/-- of a run of trues at the head: its length is how many there are -/
theorem cnt_run (q : Nat → Bool) : ∀ n, (∀ i j, i < j → j < n → q j = true → q i = true) → ∀ i, i < n → (q i = true ↔ i < cnt q n)
  | n + 1, h, i, hi => by
      have ih := cnt_run q n (fun a b hab hb => h a b hab (by omega))
      have hle := cnt_le q n
      cases hq : q n with
      | true =>
        have hall : ∀ j, j < n → q j = true := fun j hj => h j n hj (by omega) hq
        have hc : cnt q n = n := by
          have := cnt_congr q (fun _ => true) n (fun j hj => by rw [hall j hj])
          rw [this]
          exact (cnt_congr _ _ n (fun j hj => by simp [hj])).trans (cnt_lt_id n n (Nat.le_refl _))
        have : cnt q (n + 1) = n + 1 := by simp [cnt, hq, hc]
        rw [this]
        refine ⟨fun _ => hi, fun _ => ?_⟩
        by_cases e : i = n
        · rw [e]; exact hq
        · exact hall i (by omega)
      | false =>
        have : cnt q (n + 1) = cnt q n := by simp [cnt, hq]
        rw [this]
        by_cases e : i = n
        · subst e; rw [hq]; simp; exact hle
        · exact ih i (by omega)

/-! the lexicon -/
theorem lt_trans : ∀ a b c : List UInt8, Op.bytesLess a b = true → Op.bytesLess b c = true → Op.bytesLess a c = true
  | _, _, [], _, h => by cases ‹List UInt8› <;> simp [Op.bytesLess] at h
  | _, [], _ :: _, h, _ => by simp [Op.bytesLess] at h
  | [], _ :: _, _ :: _, _, _ => rfl
  | x :: a, y :: b, z :: c, h1, h2 => by
      simp only [Op.bytesLess, Bool.or_eq_true, Bool.and_eq_true, decide_eq_true_eq, beq_iff_eq] at *
      rcases h1 with h1 | ⟨rfl, h1⟩
      · rcases h2 with h2 | ⟨rfl, h2⟩
        · left; exact UInt8.lt_trans h1 h2
        · left; exact h1
      · rcases h2 with h2 | ⟨rfl, h2⟩
        · left; exact h2
        · right; exact ⟨rfl, lt_trans a b c h1 h2⟩

theorem lt_total : ∀ a b : List UInt8, Op.bytesLess a b = true ∨ a = b ∨ Op.bytesLess b a = true
  | [], [] => .inr (.inl rfl)
  | [], _ :: _ => .inl rfl
  | _ :: _, [] => .inr (.inr rfl)
  | x :: a, y :: b => by
      simp only [Op.bytesLess, Bool.or_eq_true, Bool.and_eq_true, decide_eq_true_eq, beq_iff_eq]
      rcases Nat.lt_trichotomy x.toNat y.toNat with h | h | h
      · left; left; exact UInt8.lt_iff_toNat_lt.2 h
      · have e : x = y := UInt8.toNat_inj.1 h
        subst e
        rcases lt_total a b with h | h | h
        · left; right; exact ⟨rfl, h⟩
        · right; left; rw [h]
        · right; right; right; exact ⟨rfl, h⟩
      · right; right; left; exact UInt8.lt_iff_toNat_lt.2 h

theorem lt_asymm (a b : List UInt8) (h : Op.bytesLess a b = true) : Op.bytesLess b a = false := by
  cases h2 : Op.bytesLess b a with
  | false => rfl
  | true => have := lt_trans a b a h h2; rw [lt_irrefl] at this; cases this

/-! the order -/
section
variable (t : List UInt8)

theorem rank_mono (i j : Nat) (hi : i ≤ t.length) (h : Op.bytesLess (t.drop i) (t.drop j) = true) : rank t i < rank t j :=
  cnt_imp_lt _ _ _ i (by omega) (fun k _ hk => lt_trans _ _ _ hk h) (lt_irrefl _) h

theorem drop_inj (i j : Nat) (hi : i ≤ t.length) (hj : j ≤ t.length) (h : t.drop i = t.drop j) : i = j := by
  have := congrArg List.length h
  simp at this; omega

theorem rank_lt_iff (i j : Nat) (hi : i ≤ t.length) (hj : j ≤ t.length) : rank t i < rank t j ↔ Op.bytesLess (t.drop i) (t.drop j) = true := by
  refine ⟨fun h => ?_, rank_mono t i j hi⟩
  rcases lt_total (t.drop i) (t.drop j) with h1 | h1 | h1
  · exact h1
  · have := drop_inj t i j hi hj h1; subst this; omega
  · have := rank_mono t j i hj h1; omega

theorem rank_inj (i j : Nat) (hi : i ≤ t.length) (hj : j ≤ t.length) (h : rank t i = rank t j) : i = j := by
  rcases lt_total (t.drop i) (t.drop j) with h1 | h1 | h1
  · have := rank_mono t i j hi h1; omega
  · exact drop_inj t i j hi hj h1
  · have := rank_mono t j i hj h1; omega

theorem ordTo_rank : ∀ k, k ≤ t.length + 1 → ∀ i, i < k → (ordTo t k).getD (rank t i) 0 = i
  | k + 1, hk, i, hi => by
      have hl := ordTo_length t k
      have hr := rank_lt t k (by omega)
      rw [ordTo, List.getD_eq_getElem?_getD, List.getElem?_set]
      by_cases e : rank t k = rank t i
      · have := rank_inj t k i (by omega) (by omega) e
        subst this
        simp [hl, hr]
      · have hne : i ≠ k := fun e2 => e (by rw [e2])
        simp only [e, if_false]
        rw [← List.getD_eq_getElem?_getD]
        exact ordTo_rank k (by omega) i (by omega)

/-- the row's offset -/
def off (r : Nat) : Nat := (ord t).getD r 0
theorem off_rank (i : Nat) (hi : i ≤ t.length) : off t (rank t i) = i := ordTo_rank t _ (Nat.le_refl _) i (by omega)
theorem rank_surj (r : Nat) (hr : r ≤ t.length) : ∃ i, i ≤ t.length ∧ rank t i = r := by
  obtain ⟨i, hi, h⟩ := surj (t.length + 1) (rank t) (fun i hi => rank_lt t i (by omega)) (fun i j hi hj => rank_inj t i j (by omega) (by omega)) r (by omega)
  exact ⟨i, by omega, h⟩
theorem rank_off (r : Nat) (hr : r ≤ t.length) : rank t (off t r) = r := by
  obtain ⟨i, hi, rfl⟩ := rank_surj t r hr
  rw [off_rank t i hi]
theorem off_le (r : Nat) : off t r ≤ t.length := by
  unfold off
  by_cases h : r < (ord t).length
  · refine ord_le t _ ?_
    rw [List.getD_eq_getElem?_getD, List.getElem?_eq_getElem h]; exact List.getElem_mem _
  · rw [List.getD_eq_getElem?_getD, List.getElem?_eq_none (by omega)]; exact Nat.zero_le _
theorem off_inj (r q : Nat) (hr : r ≤ t.length) (hq : q ≤ t.length) (h : off t r = off t q) : r = q := by
  rw [← rank_off t r hr, ← rank_off t q hq, h]
theorem off_zero_iff (r : Nat) (hr : r ≤ t.length) : off t r = 0 ↔ r = rank t 0 := by
  refine ⟨fun h => ?_, fun h => ?_⟩
  · rw [← rank_off t r hr, h]
  · rw [h]; exact off_rank t 0 (Nat.zero_le _)

/-- the rows rise -/
theorem off_rises (r q : Nat) (hq : q ≤ t.length) (h : r < q) : Op.bytesLess (t.drop (off t r)) (t.drop (off t q)) = true := by
  refine (rank_lt_iff t _ _ (off_le t r) (off_le t q)).1 ?_
  rw [rank_off t r (by omega), rank_off t q hq]; exact h
end

end Go.Proofs.Ythkndfkkgncjfab.Fo

namespace Go.Proofs.Ythkndfkkgncjfab.Fo

/-- a row's place in the turn, the row without a byte being left out -/
def place (row r : Nat) : Nat := if row < r then r - 1 else r
/-- and back -/
def seat (row p : Nat) : Nat := if p < row then p else p + 1
theorem seat_place (row r : Nat) (h : r ≠ row) : seat row (place row r) = r := by unfold seat place; split <;> split <;> omega
theorem place_seat (row p : Nat) : place row (seat row p) = p := by unfold seat place; split <;> split <;> omega
theorem seat_ne (row p : Nat) : seat row p ≠ row := by unfold seat; split <;> omega
theorem place_lt (row r n : Nat) (h : r ≠ row) (hr : r ≤ n) (hw : row ≤ n) : place row r < n := by unfold place; split <;> omega
theorem seat_le (row p n : Nat) (h : p < n) : seat row p ≤ n := by unfold seat; split <;> omega
theorem place_mono (row r q : Nat) (hr : r ≠ row) (hq : q ≠ row) : place row r < place row q ↔ r < q := by unfold place; split <;> split <;> omega

section
variable (t : List UInt8)

theorem row_le : rank t 0 ≤ t.length := by have := rank_lt t 0 (Nat.zero_le _); omega

theorem turnTo_before : ∀ k, k ≤ rank t 0 → turnTo t (ord t) k = ((List.range k).map (fun r => t.getD (off t r - 1) 0), 0)
  | 0, _ => rfl
  | k + 1, h => by
      have hne : off t k ≠ 0 := fun e => by have := (off_zero_iff t k (by have := row_le t; omega)).1 e; omega
      rw [turnTo, if_neg (show ¬ (ord t).getD k 0 = 0 from hne), turnTo_before k (by omega), List.range_succ, List.map_append]
      rfl

theorem turnTo_after : ∀ k, rank t 0 < k → k ≤ t.length + 1 → turnTo t (ord t) k = ((List.range (k - 1)).map (fun p => t.getD (off t (seat (rank t 0) p) - 1) 0), rank t 0)
  | k + 1, h, hk => by
      rw [turnTo]
      by_cases e : k = rank t 0
      · have hz : off t k = 0 := (off_zero_iff t k (by omega)).2 e
        rw [if_pos (show (ord t).getD k 0 = 0 from hz), turnTo_before t k (by omega), ← e]
        simp only [Nat.add_sub_cancel, Prod.mk.injEq, and_true]
        refine List.map_congr_left (fun r hr => ?_)
        simp only [List.mem_range] at hr
        simp [seat, hr]
      · have hne : off t k ≠ 0 := fun e2 => e ((off_zero_iff t k (by omega)).1 e2)
        have ih := turnTo_after k (by omega) (by omega)
        rw [if_neg (show ¬ (ord t).getD k 0 = 0 from hne), ih]
        have hs : List.range (k + 1 - 1) = List.range (k - 1) ++ [k - 1] := by
          rw [← List.range_succ]; congr 1; omega
        rw [hs, List.map_append]
        have hk2 : seat (rank t 0) (k - 1) = k := by unfold seat; split <;> omega
        simp only [List.map_cons, List.map_nil, hk2]
        rfl

theorem turn_eq : turn t = ((List.range t.length).map (fun p => t.getD (off t (seat (rank t 0) p) - 1) 0), rank t 0) := by
  have := turnTo_after t (t.length + 1) (by have := row_le t; omega) (Nat.le_refl _)
  simpa [turn] using this
theorem turn_len : (turn t).1.length = t.length := by rw [turn_eq]; simp
theorem turn_row : (turn t).2 = rank t 0 := by rw [turn_eq]
theorem turn_get (p : Nat) (h : p < t.length) : (turn t).1.getD p 0 = t.getD (off t (seat (rank t 0) p) - 1) 0 := by
  rw [turn_eq]; simp [h]
theorem turn_at (r : Nat) (hr : r ≤ t.length) (hne : r ≠ rank t 0) : (turn t).1.getD (place (rank t 0) r) 0 = t.getD (off t r - 1) 0 := by
  rw [turn_get t _ (place_lt _ _ _ hne hr (row_le t)), seat_place _ _ hne]
theorem turn_rank (i : Nat) (hi : i < t.length) : (turn t).1.getD (place (rank t 0) (rank t (i + 1))) 0 = t.getD i 0 := by
  have hne : rank t (i + 1) ≠ rank t 0 := fun e => by have := rank_inj t (i + 1) 0 (by omega) (by omega) e; omega
  have hr := rank_lt t (i + 1) (by omega)
  rw [turn_at t _ (by omega) hne, off_rank t (i + 1) (by omega)]; rfl
end

/-! places of the turn, sorted by their bytes -/
section
variable (last : List UInt8)

/-- does the byte at p go ahead of that at q? -/
def sooner (p q : Nat) : Bool := decide (last.getD p 0 < last.getD q 0) || (last.getD p 0 == last.getD q 0 && decide (p < q))
/-- the row of the suffix that begins with the byte at p -/
def longer (p : Nat) : Nat := 1 + cnt (fun i => sooner last i p) last.length

theorem sooner_irrefl (p : Nat) : sooner last p p = false := by simp [sooner, UInt8.lt_irrefl]
theorem sooner_trans (p q r : Nat) (h1 : sooner last p q = true) (h2 : sooner last q r = true) : sooner last p r = true := by
  simp only [sooner, Bool.or_eq_true, Bool.and_eq_true, decide_eq_true_eq, beq_iff_eq] at *
  rcases h1 with h1 | ⟨e1, h1⟩
  · rcases h2 with h2 | ⟨e2, h2⟩
    · left; exact UInt8.lt_trans h1 h2
    · left; rw [← e2]; exact h1
  · rcases h2 with h2 | ⟨e2, h2⟩
    · left; rw [e1]; exact h2
    · right; exact ⟨e1.trans e2, by omega⟩
theorem sooner_total (p q : Nat) : sooner last p q = true ∨ p = q ∨ sooner last q p = true := by
  simp only [sooner, Bool.or_eq_true, Bool.and_eq_true, decide_eq_true_eq, beq_iff_eq]
  rcases Nat.lt_trichotomy (last.getD p 0).toNat (last.getD q 0).toNat with h | h | h
  · left; left; exact UInt8.lt_iff_toNat_lt.2 h
  · have e : last.getD p 0 = last.getD q 0 := UInt8.toNat_inj.1 h
    rcases Nat.lt_trichotomy p q with h1 | h1 | h1
    · left; right; exact ⟨e, h1⟩
    · right; left; exact h1
    · right; right; right; exact ⟨e.symm, h1⟩
  · right; right; left; exact UInt8.lt_iff_toNat_lt.2 h
theorem longer_mono (p q : Nat) (hp : p < last.length) (h : sooner last p q = true) : longer last p < longer last q := by
  unfold longer
  have := cnt_imp_lt (fun i => sooner last i p) (fun i => sooner last i q) last.length p hp (fun i _ hi => sooner_trans last _ _ _ hi h) (sooner_irrefl last p) h
  omega
theorem longer_inj (p q : Nat) (hp : p < last.length) (hq : q < last.length) (h : longer last p = longer last q) : p = q := by
  rcases sooner_total last p q with h1 | h1 | h1
  · have := longer_mono last p q hp h1; omega
  · exact h1
  · have := longer_mono last q p hq h1; omega
theorem longer_le (p : Nat) (hp : p < last.length) : longer last p ≤ last.length := by
  have := cnt_lt (fun i => sooner last i p) last.length p hp (sooner_irrefl last p)
  unfold longer; omega
theorem longer_pos (p : Nat) : 1 ≤ longer last p := by unfold longer; omega

variable (row : Nat)
/-- the way back: k steps from the row of the empty suffix: where it stands, and the bytes that were met -/
def un : Nat → Option (Nat × List UInt8)
  | 0 => some (0, [])
  | k + 1 => match un k with
    | none => none
    | some (a, T) => if a = row then none else some (longer last (place row a), last.getD (place row a) 0 :: T)
end

/-! a text's own turn leads back to it -/
section
variable (t : List UInt8)

theorem cons_at (i : Nat) (hi : i < t.length) : t.drop i = t.getD i 0 :: t.drop (i + 1) := by
  rw [List.drop_eq_getElem_cons hi, List.getD_eq_getElem?_getD, List.getElem?_eq_getElem hi]; rfl

theorem sooner_turn (i j : Nat) (hi : i < t.length) (hj : j < t.length) :
    sooner (turn t).1 (place (rank t 0) (rank t (i + 1))) (place (rank t 0) (rank t (j + 1))) = Op.bytesLess (t.drop i) (t.drop j) := by
  have h1 : rank t (i + 1) ≠ rank t 0 := fun e => by have := rank_inj t (i + 1) 0 (by omega) (by omega) e; omega
  have h2 : rank t (j + 1) ≠ rank t 0 := fun e => by have := rank_inj t (j + 1) 0 (by omega) (by omega) e; omega
  rw [cons_at t i hi, cons_at t j hj, Op.bytesLess]
  unfold sooner
  rw [turn_rank t i hi, turn_rank t j hj]
  congr 2
  rw [Bool.eq_iff_iff]
  simp only [decide_eq_true_eq]
  rw [place_mono _ _ _ h1 h2, rank_lt_iff t _ _ (by omega) (by omega)]

theorem longer_turn (i : Nat) (hi : i < t.length) : longer (turn t).1 (place (rank t 0) (rank t (i + 1))) = rank t i := by
  have hne : ∀ m, m < t.length → rank t (m + 1) ≠ rank t 0 := fun m hm e => by have := rank_inj t (m + 1) 0 (by omega) (by omega) e; omega
  unfold longer
  rw [turn_len]
  rw [← cnt_perm t.length (fun m => place (rank t 0) (rank t (m + 1))) (fun p => sooner (turn t).1 p (place (rank t 0) (rank t (i + 1))))
    (fun m hm => place_lt _ _ _ (hne m hm) (by have := rank_lt t (m + 1) (by omega); omega) (row_le t))
    (fun a b ha hb he => by
      have h3 := congrArg (seat (rank t 0)) he
      simp only [seat_place _ _ (hne a ha), seat_place _ _ (hne b hb)] at h3
      have := rank_inj t _ _ (by omega) (by omega) h3; omega)]
  rw [cnt_congr _ (fun m => Op.bytesLess (t.drop m) (t.drop i)) t.length (fun m hm => sooner_turn t m i hm hi)]
  unfold rank ahead aheadTo
  have hlast : Op.bytesLess (t.drop t.length) (t.drop i) = true := by rw [List.drop_length, cons_at t i hi]; rfl
  simp only [cnt, hlast, if_true]
  omega

theorem rank_end : rank t t.length = 0 := by
  unfold rank ahead aheadTo
  rw [List.drop_length]
  rw [cnt_congr _ (fun _ => false) _ (fun i _ => by cases t.drop i <;> rfl)]
  generalize t.length + 1 = n
  induction n with
  | zero => rfl
  | succ n ih => simp [cnt, ih]

theorem un_turn : ∀ k, k ≤ t.length → un (turn t).1 (rank t 0) k = some (rank t (t.length - k), t.drop (t.length - k))
  | 0, _ => by simp [un, rank_end]
  | k + 1, h => by
      rw [un, un_turn k (by omega)]
      have e : t.length - k = (t.length - (k + 1)) + 1 := by omega
      have hne : rank t (t.length - k) ≠ rank t 0 := fun e => by have := rank_inj t _ 0 (by omega) (by omega) e; omega
      simp only [hne, if_false]
      rw [e, longer_turn t _ (by omega), turn_rank t _ (by omega), ← cons_at t _ (by omega)]
theorem un_turn_all : un (turn t).1 (rank t 0) t.length = some (rank t 0, t) := by
  have := un_turn t t.length (Nat.le_refl _)
  simpa using this
end

/-! what comes of any bytes and row has just that turn -/
section
variable (last : List UInt8) (row : Nat)

/-- where the way back stands behind k steps, if it comes so far -/
def pos : Nat → Nat
  | 0 => 0
  | k + 1 => longer last (place row (pos k))
/-- and the bytes -/
def bytesTo : Nat → List UInt8
  | 0 => []
  | k + 1 => last.getD (place row (pos last row k)) 0 :: bytesTo k

theorem un_some : ∀ k r, un last row k = some r → (∀ j, j < k → pos last row j ≠ row) ∧ r = (pos last row k, bytesTo last row k)
  | 0, r, h => by simp [un] at h; subst h; exact ⟨fun j hj => by omega, rfl⟩
  | k + 1, r, h => by
      rw [un] at h
      cases hu : un last row k with
      | none => rw [hu] at h; simp at h
      | some x =>
        obtain ⟨h1, h2⟩ := un_some k x hu
        rw [hu, h2] at h
        simp only at h
        by_cases e : pos last row k = row
        · simp [e] at h
        · simp only [e, if_false, Option.some.injEq] at h
          refine ⟨fun j hj => ?_, h.symm⟩
          by_cases ej : j = k
          · rw [ej]; exact e
          · exact h1 j (by omega)
theorem un_none : ∀ k, un last row k = none → ∃ j, j < k ∧ pos last row j = row
  | 0, h => by simp [un] at h
  | k + 1, h => by
      rw [un] at h
      cases hu : un last row k with
      | none => obtain ⟨j, hj, e⟩ := un_none k hu; exact ⟨j, by omega, e⟩
      | some x =>
        obtain ⟨_, h2⟩ := un_some last row k x hu
        rw [hu, h2] at h
        simp only at h
        by_cases e : pos last row k = row
        · exact ⟨k, by omega, e⟩
        · simp [e] at h
theorem un_of : ∀ k, (∀ j, j < k → pos last row j ≠ row) → un last row k = some (pos last row k, bytesTo last row k)
  | 0, _ => rfl
  | k + 1, h => by
      rw [un, un_of k (fun j hj => h j (by omega))]
      simp only [h k (by omega), if_false]
      rfl

theorem bytesTo_len : ∀ k, (bytesTo last row k).length = k
  | 0 => rfl
  | k + 1 => by simp [bytesTo, bytesTo_len k]

variable (hrow : row ≤ last.length) (hok : ∀ j, j < last.length → pos last row j ≠ row)

theorem pos_le : ∀ k, k ≤ last.length → (∀ j, j < last.length → pos last row j ≠ row) → row ≤ last.length → pos last row k ≤ last.length
  | 0, _, _, _ => Nat.zero_le _
  | k + 1, h, hok, hrow => by
      have := pos_le k (by omega) hok hrow
      exact longer_le last _ (place_lt _ _ _ (hok k (by omega)) this hrow)

theorem pos_le' : ∀ k, k ≤ last.length → (∀ j, j < k → pos last row j ≠ row) → row ≤ last.length → pos last row k ≤ last.length
  | 0, _, _, _ => Nat.zero_le _
  | k + 1, h, hok, hrow => by
      have := pos_le' k (by omega) (fun j hj => hok j (by omega)) hrow
      exact longer_le last _ (place_lt _ _ _ (hok k (by omega)) this hrow)

theorem pos_inj (hrow : row ≤ last.length) (hok : ∀ j, j < last.length → pos last row j ≠ row) : ∀ j k, j < k → k ≤ last.length → pos last row j ≠ pos last row k
  | 0, k + 1, _, _ => by
      have := longer_pos last (place row (pos last row k))
      show 0 ≠ longer last (place row (pos last row k)); omega
  | j + 1, k + 1, h, hk => by
      intro e
      have h1 := place_lt row (pos last row j) last.length (hok j (by omega)) (pos_le last row j (by omega) hok hrow) hrow
      have h2 := place_lt row (pos last row k) last.length (hok k (by omega)) (pos_le last row k (by omega) hok hrow) hrow
      have h3 := congrArg (seat row) (longer_inj last _ _ h1 h2 e)
      rw [seat_place _ _ (hok j (by omega)), seat_place _ _ (hok k (by omega))] at h3
      exact pos_inj hrow hok j k (by omega) (by omega) h3

theorem pos_end (hrow : row ≤ last.length) (hok : ∀ j, j < last.length → pos last row j ≠ row) : pos last row last.length = row := by
  obtain ⟨i, hi, h⟩ := surj (last.length + 1) (pos last row) (fun i hi => by have := pos_le last row i (by omega) hok hrow; omega)
    (fun i j hi hj he => by
      rcases Nat.lt_trichotomy i j with h | h | h
      · exact absurd he (pos_inj last row hrow hok i j h (by omega))
      · exact h
      · exact absurd he.symm (pos_inj last row hrow hok j i h (by omega))) row (by omega)
  by_cases e : i = last.length
  · rw [← e]; exact h
  · exact absurd h (hok i (by omega))

/-- the text -/
def text : List UInt8 := bytesTo last row last.length
theorem text_len : (text last row).length = last.length := bytesTo_len _ _ _
theorem bytesTo_drop : ∀ k i, i ≤ k → (bytesTo last row k).drop i = bytesTo last row (k - i)
  | k, 0, _ => by simp
  | k + 1, i + 1, h => by
      rw [bytesTo, List.drop_succ_cons, bytesTo_drop k i (by omega)]; congr 1; omega
/-- the row of the suffix at i -/
def rowAt (i : Nat) : Nat := pos last row (last.length - i)
theorem text_drop (i : Nat) (h : i ≤ last.length) : (text last row).drop i = bytesTo last row (last.length - i) := bytesTo_drop last row _ i h
theorem text_cons (i : Nat) (h : i < last.length) : (text last row).drop i = last.getD (place row (rowAt last row (i + 1))) 0 :: (text last row).drop (i + 1) := by
  rw [text_drop last row i (by omega), text_drop last row (i + 1) (by omega)]
  have e : last.length - i = (last.length - (i + 1)) + 1 := by omega
  rw [e]; rfl
theorem rowAt_step (i : Nat) (h : i < last.length) : rowAt last row i = longer last (place row (rowAt last row (i + 1))) := by
  unfold rowAt
  have e : last.length - i = (last.length - (i + 1)) + 1 := by omega
  rw [e]; rfl

theorem rowAt_mono (hrow : row ≤ last.length) (hok : ∀ j, j < last.length → pos last row j ≠ row) : ∀ d i j, last.length - i = d → i ≤ last.length → j ≤ last.length →
    Op.bytesLess ((text last row).drop i) ((text last row).drop j) = true → rowAt last row i < rowAt last row j
  | 0, i, j, hd, hi, hj, h => by
      have ei : i = last.length := by omega
      by_cases ej : j = last.length
      · rw [ei, ej, lt_irrefl] at h; cases h
      · rw [rowAt_step last row j (by omega)]
        have := longer_pos last (place row (rowAt last row (j + 1)))
        have : rowAt last row i = 0 := by unfold rowAt; rw [ei, Nat.sub_self]; rfl
        omega
  | d + 1, i, j, hd, hi, hj, h => by
      have hil : i < last.length := by omega
      by_cases ej : j = last.length
      · have e0 : (text last row).drop j = [] := by rw [ej, ← text_len last row, List.drop_length]
        rw [e0] at h
        cases hx : (text last row).drop i <;> rw [hx] at h <;> simp [Op.bytesLess] at h
      · have hjl : j < last.length := by omega
        have ne1 : rowAt last row (i + 1) ≠ row := hok _ (by omega)
        have ne2 : rowAt last row (j + 1) ≠ row := hok _ (by omega)
        have p1 : place row (rowAt last row (i + 1)) < last.length := place_lt _ _ _ ne1 (pos_le last row _ (by omega) hok hrow) hrow
        rw [rowAt_step last row i hil, rowAt_step last row j hjl]
        refine longer_mono last _ _ p1 ?_
        rw [text_cons last row i hil, text_cons last row j hjl, Op.bytesLess] at h
        unfold sooner
        simp only [Bool.or_eq_true, Bool.and_eq_true, decide_eq_true_eq, beq_iff_eq] at *
        rcases h with h | ⟨h1, h2⟩
        · left; exact h
        · right
          refine ⟨h1, ?_⟩
          rw [place_mono _ _ _ ne1 ne2]
          exact rowAt_mono hrow hok d (i + 1) (j + 1) (by omega) (by omega) (by omega) h2

theorem rowAt_le (hrow : row ≤ last.length) (hok : ∀ j, j < last.length → pos last row j ≠ row) (i : Nat) : rowAt last row i ≤ last.length := pos_le last row _ (by omega) hok hrow
theorem rowAt_inj (hrow : row ≤ last.length) (hok : ∀ j, j < last.length → pos last row j ≠ row) (i j : Nat) (hi : i ≤ last.length) (hj : j ≤ last.length) (h : rowAt last row i = rowAt last row j) : i = j := by
  unfold rowAt at h
  rcases Nat.lt_trichotomy (last.length - i) (last.length - j) with h1 | h1 | h1
  · exact absurd h (pos_inj last row hrow hok _ _ h1 (by omega))
  · omega
  · exact absurd h.symm (pos_inj last row hrow hok _ _ h1 (by omega))

theorem rank_rowAt (hrow : row ≤ last.length) (hok : ∀ j, j < last.length → pos last row j ≠ row) (i : Nat) (hi : i ≤ last.length) : rank (text last row) i = rowAt last row i := by
  unfold rank ahead aheadTo
  rw [text_len]
  have hc := cnt_perm (last.length + 1) (rowAt last row) (fun r => decide (r < rowAt last row i)) (fun k _ => by have := rowAt_le last row hrow hok k; omega) (fun a b ha hb => rowAt_inj last row hrow hok a b (by omega) (by omega))
  rw [cnt_lt_id _ _ (by have := rowAt_le last row hrow hok i; omega)] at hc
  rw [← hc]
  refine cnt_congr _ _ _ (fun k hk => ?_)
  rw [Bool.eq_iff_iff]
  simp only [decide_eq_true_eq]
  refine ⟨rowAt_mono last row hrow hok _ k i rfl (by omega) hi, fun h => ?_⟩
  rcases lt_total ((text last row).drop k) ((text last row).drop i) with h1 | h1 | h1
  · exact h1
  · have := drop_inj (text last row) k i (by rw [text_len]; omega) (by rw [text_len]; omega) h1
    subst this; omega
  · have := rowAt_mono last row hrow hok _ i k rfl hi (by omega) h1; omega

theorem text_get (i : Nat) (h : i < last.length) : (text last row).getD i 0 = last.getD (place row (rowAt last row (i + 1))) 0 := by
  have h1 := cons_at (text last row) i (by rw [text_len]; exact h)
  rw [text_cons last row i h] at h1
  simp only [List.cons.injEq] at h1
  exact h1.1.symm

theorem turn_text (hrow : row ≤ last.length) (hok : ∀ j, j < last.length → pos last row j ≠ row) : turn (text last row) = (last, row) := by
  have hr0 : rank (text last row) 0 = row := by
    rw [rank_rowAt last row hrow hok 0 (Nat.zero_le _)]
    exact pos_end last row hrow hok
  rw [turn_eq, hr0, text_len]
  refine Prod.ext ?_ rfl
  refine List.ext_getElem (by simp) (fun p h1 h2 => ?_)
  simp only [List.getElem_map, List.getElem_range]
  have hp : p < last.length := h2
  have hs := seat_le row p last.length hp
  have hsn := seat_ne row p
  obtain ⟨i, hi, hri⟩ := rank_surj (text last row) (seat row p) (by rw [text_len]; exact hs)
  rw [text_len] at hi
  have hi0 : i ≠ 0 := fun e => by rw [e, hr0] at hri; exact hsn hri.symm
  rw [← hri, off_rank (text last row) i (by rw [text_len]; exact hi), text_get last row (i - 1) (by omega)]
  have e1 : i - 1 + 1 = i := by omega
  rw [e1, ← rank_rowAt last row hrow hok i hi, hri, place_seat, List.getD_eq_getElem?_getD, List.getElem?_eq_getElem hp]
  rfl
end

end Go.Proofs.Ythkndfkkgncjfab.Fo

namespace Go.Proofs.Ythkndfkkgncjfab
open Go.RowKit
set_option maxRecDepth 100000

theorem sooner_at (s : ByteArray) (i p : Nat) (hi : i < s.size) (hp : p < s.size) :
    Fo.sooner s.data.toList i p = (decide (s[i].toNat < s[p].toNat) || (decide (s[i].toNat = s[p].toNat) && decide (i < p))) := by
  unfold Fo.sooner
  rw [getD_byte s i hi, getD_byte s p hp]
  congr 1
  congr 1
  rw [Bool.eq_iff_iff]
  simp [UInt8.toNat_inj]

theorem longTo_succ (l : List UInt8) (p k : Nat) : Fo.cnt (fun i => Fo.sooner l i p) (k + 1) = Fo.cnt (fun i => Fo.sooner l i p) k + (if Fo.sooner l k p then 1 else 0) := rfl

set_option maxHeartbeats 1000000 in
theorem longer_any (s : ByteArray) (p : Nat) (w : World) (hp : p < s.size) (hs : s.size ≤ 1000000) :
    Calls Try.prog 100 #[.string s, .int .i64 (p : Int)] w fun e w' => e = .returned (.int .i64 (Fo.longer s.data.toList p : Nat)) ∧ ∃ m, w' = w.drewN m := by
  go_enter Try.func100, Try.ntmps100
  go_wp2
  go_loopw [5, 6] (fun n i wr => ∃ k : Nat, k ≤ s.size ∧ i = .int .i64 k ∧ n = .int .i64 ((1 : Int) + (Fo.cnt (fun i => Fo.sooner s.data.toList i p) k : Nat)) ∧ ∃ m, wr = w.drewN m) (fun _ i _ => s.size - (intOf i).toNat)
  case atStart => exact ⟨0, Nat.zero_le _, rfl, rfl, 0, rfl⟩
  case round =>
    obtain ⟨k, hk, rfl, rfl, hwr⟩ := hrel
    have HW : Hid (∃ m, wr = w.drewN m) := hwr
    clear hwr
    have hd : Fo.cnt (fun i => Fo.sooner s.data.toList i p) k ≤ k := Fo.cnt_le _ _
    generalize hc : Fo.cnt (fun i => Fo.sooner s.data.toList i p) k = c at *
    have HC : Hid (Fo.cnt (fun i => Fo.sooner s.data.toList i p) k = c) := hc
    clear hc
    by_cases hlt : k < s.size
    · have hso := sooner_at s k p hlt hp
      have HS : Hid (Fo.cnt (fun i => Fo.sooner s.data.toList i p) (k + 1) = c + (if (decide (s[k].toNat < s[p].toNat) || (decide (s[k].toNat = s[p].toNat) && decide (k < p))) then 1 else 0)) := by
        have h := longTo_succ s.data.toList p k
        rw [hso, HC.out] at h; exact h
      clear hso HC
      by_cases h1 : s[k].toNat < s[p].toNat
      · go_wp2
        go_quiet (fail)
        go_wp2
        go_roundw
        case rel => exact ⟨k + 1, by omega, by go_num, by rw [HS.out]; simp [h1]; omega, by obtain ⟨m, hm⟩ := HW.out; exact ⟨m + nq, by rw [hm, World.drewN_drewN]⟩⟩
        case measure => simp [intOf]; omega
      · have h1' : decide (s[k].toNat < s[p].toNat) = false := by simpa using h1
        by_cases h2 : s[k].toNat = s[p].toNat
        · have h2' : ((s[k].toNat : Int) == (s[p].toNat : Int)) = true := by rw [beq_iff_eq]; omega
          by_cases h3 : k < p
          · go_wp2
            go_quiet (fail)
            go_wp2
            go_roundw
            case rel => exact ⟨k + 1, by omega, by go_num, by rw [HS.out]; simp [h2, h3]; omega, by obtain ⟨m, hm⟩ := HW.out; exact ⟨m + nq, by rw [hm, World.drewN_drewN]⟩⟩
            case measure => simp [intOf]; omega
          · go_wp2
            go_quiet (fail)
            go_wp2
            go_roundw
            case rel => exact ⟨k + 1, by omega, by go_num, by rw [HS.out]; simp [h2, h3], by obtain ⟨m, hm⟩ := HW.out; exact ⟨m + nq, by rw [hm, World.drewN_drewN]⟩⟩
            case measure => simp [intOf]; omega
        · have h2' : ((s[k].toNat : Int) == (s[p].toNat : Int)) = false := by rw [beq_eq_false_iff_ne]; omega
          go_wp2
          go_quiet (fail)
          go_wp2
          go_roundw
          case rel => exact ⟨k + 1, by omega, by go_num, by rw [HS.out]; simp [h1, h2], by obtain ⟨m, hm⟩ := HW.out; exact ⟨m + nq, by rw [hm, World.drewN_drewN]⟩⟩
          case measure => simp [intOf]; omega
    · go_wp2
      go_ret
      have e : k = s.size := by omega
      subst e
      exact ⟨ret_int (by rw [← HC.out]; unfold Fo.longer; rw [size_len]; omega), HW.out⟩

theorem longer_at (s : ByteArray) (x : Int) (p : Nat) (w : World) (hx : x = (p : Int)) (hp : p < s.size) (hs : s.size ≤ 1000000) :
    Calls Try.prog 100 #[.string s, .int .i64 x] w fun e w' => e = .returned (.int .i64 (Fo.longer s.data.toList p : Nat)) ∧ ∃ m, w' = w.drewN m := by
  subst hx; exact longer_any s p w hp hs

theorem U_set (l : List UInt8) (j : Nat) (x : UInt8) : (U l).set j (.int .u8 (x.toNat : Int)) = U (l.set j x) := by simp [U, List.map_set]
/-- a made row of bytes -/
def RowU (w : World) (B g : Nat) (l : List UInt8) : Prop := OwnU w B (.slice (some ⟨g, 0, none⟩) l.length l.length) l
theorem RowU.cell {w : World} {B g : Nat} {l : List UInt8} (h : RowU w B g l) (j : Nat) (hj : j < l.length) : w.cell? ⟨g, j, none⟩ = some (.int .u8 ((l.getD j 0).toNat : Int)) := by
  rw [World.ownsRow.cellAt h j (by omega)]; simp [U, hj]
theorem RowU.free {w : World} {B g : Nat} {l : List UInt8} (h : RowU w B g l) (j : Nat) : w.frozen? ⟨g, j, none⟩ = false := World.ownsRow.frozenAt h j
theorem RowU.put {w : World} {B g : Nat} {l : List UInt8} (h : RowU w B g l) (j : Nat) (x : UInt8) : RowU (w.setCell ⟨g, j, none⟩ (.int .u8 (x.toNat : Int))) B g (l.set j x) := by
  have := (World.ownsRow.stored h j (.int .u8 (x.toNat : Int))).1
  rw [U_set] at this
  unfold RowU OwnU
  rw [List.length_set]
  exact this
theorem RowU.below {w w' : World} {B g : Nat} {l : List UInt8} (h : RowU w B g l) (hb : Below w.heap.size w w') : RowU w' B g l := row_below h hb
theorem made_bytes {w : World} {B g n : Nat} (h : w.ownsRow B 5 1 (.slice (some ⟨g, 0, none⟩) n n) n (madeCells (Value.int .u8 0).cells (n * 1)).toList) : RowU w B g (List.replicate n 0) := by
  have e : (madeCells (Value.int .u8 0).cells (n * 1)).toList = U (List.replicate n 0) := by
    rw [Nat.mul_one]
    show (madeCells #[Value.int .u8 0] n).toList = _
    rw [toList_madeCells_one]; simp [U]
  unfold RowU OwnU
  rw [List.length_replicate, ← e]; exact h
theorem set_zeros (q : Nat) (x : UInt8) (T : List UInt8) : (List.replicate (q + 1) (0 : UInt8) ++ T).set q x = List.replicate q 0 ++ x :: T := by
  rw [List.replicate_succ', List.append_assoc, List.set_append_right _ _ (by simp)]
  simp

/-- what the way back comes to -/
def unRes (l : List UInt8) (r : Nat) : List UInt8 × Bool := match Fo.un l r l.length with
  | none => ([], false)
  | some x => (x.2, true)
theorem unRes_hit (l : List UInt8) (r k : Nat) (hk : k < l.length) (h : Fo.pos l r k = r) : unRes l r = ([], false) := by
  unfold unRes
  cases hu : Fo.un l r l.length with
  | none => rfl
  | some x => exact absurd h ((Fo.un_some l r _ x hu).1 k hk)
theorem unRes_all (l : List UInt8) (r : Nat) (h : ∀ j, j < l.length → Fo.pos l r j ≠ r) : unRes l r = (Fo.text l r, true) := by
  unfold unRes
  rw [Fo.un_of l r _ h]; rfl

set_option maxHeartbeats 400000 in
theorem unturn_out (s : ByteArray) (r : Int) (w : World) (hs : s.size ≤ 1000000) (h : r < 0 ∨ (s.size : Int) < r) :
    Calls Try.prog 79 #[.string s, .int .i64 r] w fun e w' => e = .returned (.tuple #[S [], .bool false]) ∧ w' = w := by
  rcases h with h | h
  · go_enter Try.func79, Try.ntmps79
    go_wp2
    go_ret2
    exact ⟨rfl, rfl⟩
  · have h0 : ¬ r < 0 := by omega
    go_enter Try.func79, Try.ntmps79
    go_wp2
    go_ret2
    exact ⟨rfl, rfl⟩

set_option maxHeartbeats 1000000 in
theorem unturn_in (s : ByteArray) (r : Nat) (w : World) (hs : s.size ≤ 1000000) (hr : r ≤ s.size) :
    Calls Try.prog 79 #[.string s, .int .i64 (r : Int)] w fun e w' => e = .returned (.tuple #[S (unRes s.data.toList r).1, .bool (unRes s.data.toList r).2]) ∧ Below w.heap.size w w' := by
  obtain ⟨i0, hi, hz0, hz1, hz2⟩ := info_parts Try.info5
  have hr0 : decide ((r : Int) < 0) = false := by simp
  go_enter Try.func79, Try.ntmps79
  go_wp2_with (at_make; refine wpList_make_full _ rfl _ _ 143 rfl w.heap.size 5 i0 (.int .u8 0) 1 Try.underlying143 hi hz0 hz1 .i64 .i64 _ _ s.size rfl rfl (by omega) (by omega) (by rw [hz2]; omega) (by unfold maxLen; omega) (Nat.le_refl _) ?_; intro w0 hown0 hgrow0)
  have hb0 : Below w.heap.size w w0 := (Below.refl _ _).grown hgrow0 (Nat.le_refl _) (by simp)
  have hm0 := made_bytes hown0
  clear hown0 hgrow0
  go_loopw [7, 8] (fun a i wr => ∃ k q : Nat, k + q = s.size ∧ i = .int .i64 ((q : Int) - 1) ∧ a = .int .i64 (Fo.pos s.data.toList r k : Nat) ∧ (∀ j, j < k → Fo.pos s.data.toList r j ≠ r) ∧
      RowU wr w.heap.size w.heap.size (List.replicate q 0 ++ Fo.bytesTo s.data.toList r k) ∧ Below w.heap.size w wr) (fun _ i _ => (intOf i + 1).toNat)
  case atStart => exact ⟨0, s.size, by omega, rfl, rfl, fun j hj => by omega, by simpa [Fo.bytesTo] using hm0, hb0⟩
  case round =>
    obtain ⟨k, q, hkq, rfl, rfl, hno, hrow, hbl⟩ := hrel
    clear hm0 hb0
    have HN : Hid (∀ j, j < k → Fo.pos s.data.toList r j ≠ r) := hno
    clear hno
    cases q with
    | zero =>
      have hks : k = s.size := by omega
      subst hks
      have hst : (convert 143 9 (.slice (some ⟨w.heap.size, 0, none⟩) s.size s.size)).run Try.prog wr = .ok (.string ⟨(Fo.text s.data.toList r).toArray⟩) wr := by
        have h := OwnU.string hrow
        simp only [List.replicate_zero, List.nil_append, Fo.bytesTo_len] at h
        exact h
      have HR : Hid (unRes s.data.toList r = (Fo.text s.data.toList r, true)) := unRes_all _ _ HN.out
      go_wp2
      go_ret2
      exact ⟨by rw [HR.out]; rfl, hbl⟩
    | succ q =>
      have e1 : (((q + 1 : Nat) : Int) - 1) = (q : Int) := by omega
      rw [e1]
      clear e1
      obtain ⟨a, ha⟩ : ∃ a, Fo.pos s.data.toList r k = a := ⟨_, rfl⟩
      have hale : a ≤ s.size := by
        rw [← ha]
        exact Fo.pos_le' s.data.toList r k (by rw [size_len]; omega) HN.out hr
      rw [ha]
      have HA : Hid (Fo.pos s.data.toList r k = a) := ha
      clear ha
      by_cases har : a = r
      · have HR : Hid (unRes s.data.toList r = ([], false)) := unRes_hit _ _ k (by rw [size_len]; omega) (by rw [HA.out]; exact har)
        have hb1 : ((a : Int) == (r : Int)) = true := by rw [beq_iff_eq]; omega
        clear har
        go_wp2
        go_ret2
        exact ⟨by rw [HR.out]; rfl, hbl⟩
      · have hb1 : ((a : Int) == (r : Int)) = false := by rw [beq_eq_false_iff_ne]; omega
        obtain ⟨p, hp⟩ : ∃ p, Fo.place r a = p := ⟨_, rfl⟩
        have hpl : p < s.size := by rw [← hp]; exact Fo.place_lt r a s.size har hale hr
        have HB : Hid (Fo.bytesTo s.data.toList r (k + 1) = s[p] :: Fo.bytesTo s.data.toList r k) := by
          show Fo.bytesTo s.data.toList r (k + 1) = _
          rw [Fo.bytesTo, HA.out, hp, getD_byte s p hpl]
        have HP : Hid (Fo.pos s.data.toList r (k + 1) = Fo.longer s.data.toList p) := by
          show Fo.pos s.data.toList r (k + 1) = _
          rw [Fo.pos, HA.out, hp]
        have HN2 : Hid (∀ j, j < k + 1 → Fo.pos s.data.toList r j ≠ r) := by
          intro j hj
          by_cases ej : j = k
          · rw [ej, HA.out]; exact har
          · exact HN.out j (by omega)
        have hlen : (List.replicate (q + 1) (0 : UInt8) ++ Fo.bytesTo s.data.toList r k).length = s.size := by simp [Fo.bytesTo_len]; omega
        have hc := hrow.cell q (by simp; omega)
        have hf := hrow.free q
        have hpu := hrow.put q s[p]
        rw [set_zeros] at hpu
        have hll := Fo.longer_le s.data.toList p hpl
        rw [size_len] at hll
        clear HN HA hrow
        by_cases hgt : r < a
        · have hpe : (a : Int) - 1 = (p : Int) := by rw [← hp]; unfold Fo.place; rw [if_pos hgt]; omega
          clear hp
          go_wp2_with fail
          refine (longer_any s p _ hpl hs).mono ?_
          rintro e w1 ⟨rfl, m, hm⟩
          rw [hm]
          clear hm
          go_wp2
          go_roundw
          case rel => exact ⟨k + 1, q, by omega, rfl, by rw [HP.out], HN2.out, by rw [HB.out]; exact hpu.below (below_drewN (Below.refl _ _) _), below_drewN (hbl.setCell (p := ⟨w.heap.size, q, none⟩) (Nat.le_refl _) _) _⟩
          case measure => simp [intOf]
        · have hpe : a = p := by rw [← hp]; unfold Fo.place; rw [if_neg hgt]
          subst hpe
          clear hp
          go_wp2_with fail
          refine (longer_any s a _ hpl hs).mono ?_
          rintro e w1 ⟨rfl, m, hm⟩
          rw [hm]
          clear hm
          go_wp2
          go_roundw
          case rel => exact ⟨k + 1, q, by omega, rfl, by rw [HP.out], HN2.out, by rw [HB.out]; exact hpu.below (below_drewN (Below.refl _ _) _), below_drewN (hbl.setCell (p := ⟨w.heap.size, q, none⟩) (Nat.le_refl _) _) _⟩
          case measure => simp [intOf]

set_option maxHeartbeats 400000 in
theorem Unturn_long (s : ByteArray) (r : Int) (w : World) (hs : 120 < s.size) :
    Calls Try.prog 51 #[.string s, .int .i64 r] w fun e w' => e = .returned (.tuple #[S [], .int .i64 2]) ∧ w' = w := by
  go_enter Try.func51, Try.ntmps51
  go_wp2
  go_ret2
  exact ⟨rfl, rfl⟩
set_option maxHeartbeats 400000 in
theorem Unturn_out (s : ByteArray) (r : Int) (w : World) (hs : s.size ≤ 120) (h : r < 0 ∨ (s.size : Int) < r) :
    Calls Try.prog 51 #[.string s, .int .i64 r] w fun e w' => e = .returned (.tuple #[S [], .int .i64 8]) ∧ w' = w := by
  go_enter Try.func51, Try.ntmps51
  go_wp2_with (go_at_call 79; refine (unturn_out _ _ _ (by omega) h).mono ?_; rintro e w1 ⟨rfl, hw1⟩; rw [hw1])
  go_ret2
  exact ⟨rfl, rfl⟩
set_option maxHeartbeats 400000 in
theorem Unturn_no (s : ByteArray) (r : Nat) (w : World) (hs : s.size ≤ 120) (hr : r ≤ s.size) (h : unRes s.data.toList r = ([], false)) :
    Calls Try.prog 51 #[.string s, .int .i64 (r : Int)] w fun e w' => e = .returned (.tuple #[S [], .int .i64 8]) ∧ Below w.heap.size w w' := by
  have H : Hid (unRes s.data.toList r = ([], false)) := h
  clear h
  go_enter Try.func51, Try.ntmps51
  go_wp2_with (go_at_call 79; refine (unturn_in _ _ _ (by omega) hr).mono ?_; rintro e w1 ⟨he, hw1⟩; rw [H.out] at he; subst he)
  go_ret2
  exact ⟨rfl, hw1⟩
set_option maxHeartbeats 400000 in
theorem Unturn_yes (s : ByteArray) (r : Nat) (T : List UInt8) (w : World) (hs : s.size ≤ 120) (hr : r ≤ s.size) (h : unRes s.data.toList r = (T, true)) :
    Calls Try.prog 51 #[.string s, .int .i64 (r : Int)] w fun e w' => e = .returned (.tuple #[S T, .int .i64 0]) ∧ Below w.heap.size w w' := by
  have H : Hid (unRes s.data.toList r = (T, true)) := h
  clear h
  go_enter Try.func51, Try.ntmps51
  go_wp2_with (go_at_call 79; refine (unturn_in _ _ _ (by omega) hr).mono ?_; rintro e w1 ⟨he, hw1⟩; rw [H.out] at he; subst he)
  go_ret2
  exact ⟨rfl, hw1⟩

end Go.Proofs.Ythkndfkkgncjfab

namespace Go.Proofs.Ythkndfkkgncjfab.Fo
section
variable (last : List UInt8)

/-- places of one byte, among the first k -/
def fIn (c : Nat) : Nat → List Nat
  | 0 => []
  | k + 1 => fIn c k ++ (if (last.getD k 0).toNat = c then [k] else [])
/-- places of all bytes below c, byte by byte -/
def fTo : Nat → List Nat
  | 0 => []
  | c + 1 => fTo c ++ fIn last c last.length

theorem fIn_len (c : Nat) : ∀ k, (fIn last c k).length = cnt (fun i => decide ((last.getD i 0).toNat = c)) k
  | 0 => rfl
  | k + 1 => by
      rw [fIn, List.length_append, fIn_len c k, cnt]
      by_cases e : (last.getD k 0).toNat = c
      · rw [if_pos e, if_pos (decide_eq_true e)]; rfl
      · rw [if_neg e, if_neg (by rw [decide_eq_true_eq]; exact e)]; rfl
theorem fIn_lt (c : Nat) : ∀ k, ∀ x ∈ fIn last c k, x < k
  | 0, x, h => by simp [fIn] at h
  | k + 1, x, h => by
      rw [fIn, List.mem_append] at h
      rcases h with h | h
      · have := fIn_lt c k x h; omega
      · by_cases e : (last.getD k 0).toNat = c
        · rw [if_pos e, List.mem_singleton] at h; omega
        · rw [if_neg e] at h; cases h
theorem fTo_lt : ∀ c, ∀ x ∈ fTo last c, x < last.length
  | 0, x, h => by simp [fTo] at h
  | c + 1, x, h => by
      rw [fTo, List.mem_append] at h
      rcases h with h | h
      · exact fTo_lt c x h
      · exact fIn_lt last c _ x h
theorem cnt_or (p q r : Nat → Bool) (h : ∀ i, r i = (p i || q i)) (hd : ∀ i, p i = true → q i = false) : ∀ n, cnt r n = cnt p n + cnt q n
  | 0 => rfl
  | n + 1 => by
      have ih := cnt_or p q r h hd n
      have h1 := h n
      have h2 := hd n
      unfold cnt
      cases hp : p n <;> cases hq : q n <;> simp_all <;> omega
theorem fTo_len : ∀ c, (fTo last c).length = cnt (fun i => decide ((last.getD i 0).toNat < c)) last.length
  | 0 => by
      rw [cnt_congr _ (fun _ => false) _ (fun i _ => by simp)]
      generalize last.length = n
      induction n with
      | zero => rfl
      | succ n ih => simp [cnt, ← ih]
  | c + 1 => by
      rw [fTo, List.length_append, fTo_len c, fIn_len]
      refine (cnt_or _ _ _ (fun i => ?_) (fun i hi => ?_) _).symm
      · rw [Bool.eq_iff_iff]; simp; omega
      · simp at *; omega
theorem fTo_all : (fTo last 256).length = last.length := by
  rw [fTo_len]
  rw [cnt_congr _ (fun k => decide (k < last.length)) _ (fun i hi => by
    have := UInt8.toNat_lt (last.getD i 0)
    simp only [hi, decide_true, decide_eq_true_eq]; omega)]
  exact cnt_lt_id _ _ (Nat.le_refl _)

theorem fIn_prefix (c k : Nat) : ∀ d, ∃ R, fIn last c (k + d) = fIn last c k ++ R
  | 0 => ⟨[], by simp⟩
  | d + 1 => by
      obtain ⟨R, hR⟩ := fIn_prefix c k d
      refine ⟨R ++ (if (last.getD (k + d) 0).toNat = c then [k + d] else []), ?_⟩
      show fIn last c (k + d + 1) = _
      rw [fIn, hR, List.append_assoc]
theorem fTo_prefix (c : Nat) : ∀ d, ∃ R, fTo last (c + d) = fTo last c ++ R
  | 0 => ⟨[], by simp⟩
  | d + 1 => by
      obtain ⟨R, hR⟩ := fTo_prefix c d
      refine ⟨R ++ fIn last (c + d) last.length, ?_⟩
      show fTo last (c + d + 1) = _
      rw [fTo, hR, List.append_assoc]

theorem longer_split (p : Nat) (hp : p < last.length) : longer last p = 1 + ((fTo last (last.getD p 0).toNat).length + (fIn last (last.getD p 0).toNat p).length) := by
  unfold longer
  rw [fTo_len, fIn_len]
  congr 1
  have h1 : cnt (fun i => decide ((last.getD i 0).toNat = (last.getD p 0).toNat)) p = cnt (fun i => decide ((last.getD i 0).toNat = (last.getD p 0).toNat) && decide (i < p)) last.length := by
    have key : ∀ d, cnt (fun i => decide ((last.getD i 0).toNat = (last.getD p 0).toNat) && decide (i < p)) (p + d) = cnt (fun i => decide ((last.getD i 0).toNat = (last.getD p 0).toNat)) p := by
      intro d
      induction d with
      | zero => exact cnt_congr _ _ _ (fun i hi => by rw [decide_eq_true (show i < p from hi), Bool.and_true])
      | succ d ih =>
        show cnt _ (p + d) + _ = _
        rw [ih]
        have : ¬ (p + d < p) := by omega
        simp [this]
    have := key (last.length - p)
    rw [show p + (last.length - p) = last.length by omega] at this
    exact this.symm
  rw [h1]
  refine cnt_or _ _ _ (fun i => ?_) (fun i hi => ?_) _
  · unfold sooner
    rw [Bool.eq_iff_iff]
    simp [UInt8.lt_iff_toNat_lt, UInt8.toNat_inj]
  · simp only [decide_eq_true_eq] at hi
    rw [decide_eq_false (show ¬ (last.getD i 0).toNat = (last.getD p 0).toNat by omega), Bool.false_and]

/-- in rising order, the byte at p stands where its row says -/
theorem firsts_get (p : Nat) (hp : p < last.length) : (fTo last 256).getD (longer last p - 1) 0 = p := by
  have hb := UInt8.toNat_lt (last.getD p 0)
  obtain ⟨R1, h1⟩ := fTo_prefix last ((last.getD p 0).toNat + 1) (255 - (last.getD p 0).toNat)
  rw [show (last.getD p 0).toNat + 1 + (255 - (last.getD p 0).toNat) = 256 by omega] at h1
  obtain ⟨R2, h2⟩ := fIn_prefix last (last.getD p 0).toNat (p + 1) (last.length - (p + 1))
  rw [show p + 1 + (last.length - (p + 1)) = last.length by omega] at h2
  rw [h1, fTo, h2, fIn, if_pos rfl, longer_split last p hp]
  rw [show 1 + ((fTo last (last.getD p 0).toNat).length + (fIn last (last.getD p 0).toNat p).length) - 1 = (fTo last (last.getD p 0).toNat).length + (fIn last (last.getD p 0).toNat p).length by omega]
  rw [List.append_assoc, List.append_assoc, List.append_assoc, List.getD_eq_getElem?_getD, List.getElem?_append_right (by omega)]
  rw [show (fTo last (last.getD p 0).toNat).length + (fIn last (last.getD p 0).toNat p).length - (fTo last (last.getD p 0).toNat).length = (fIn last (last.getD p 0).toNat p).length by omega]
  rw [List.getElem?_append_right (by omega)]
  simp

variable (row : Nat)
/-- the way forwards: j steps from a row -/
def fw : Nat → Nat × List UInt8
  | 0 => (row, [])
  | j + 1 => if (fw j).1 = 0 then fw j else (seat row ((fTo last 256).getD ((fw j).1 - 1) 0), (fw j).2 ++ [last.getD ((fTo last 256).getD ((fw j).1 - 1) 0) 0])

theorem fw_stop (j : Nat) (h : (fw last row j).1 = 0) : ∀ d, fw last row (j + d) = fw last row j
  | 0 => rfl
  | d + 1 => by
      show fw last row (j + d + 1) = _
      have ih := fw_stop j h d
      rw [fw, ih, if_pos h]
theorem fw_len : ∀ j, (fw last row j).2.length ≤ j
  | 0 => Nat.le_refl _
  | j + 1 => by
      have := fw_len j
      rw [fw]
      split
      · omega
      · simp; omega
theorem firsts_lt (i : Nat) (h : i < last.length) : (fTo last 256).getD i 0 < last.length := by
  refine fTo_lt last 256 _ ?_
  have hl := fTo_all last
  rw [List.getD_eq_getElem?_getD, List.getElem?_eq_getElem (by omega)]; exact List.getElem_mem _
theorem fw_le (hrow : row ≤ last.length) : ∀ j, (fw last row j).1 ≤ last.length
  | 0 => hrow
  | j + 1 => by
      have ih := fw_le hrow j
      rw [fw]
      split
      · exact ih
      · exact seat_le row _ _ (firsts_lt last _ (by omega))
end

theorem rank_pos (t : List UInt8) (j : Nat) (hj : j < t.length) : rank t j ≠ 0 := fun e => by
  have := rank_inj t j t.length (by omega) (Nat.le_refl _) (by rw [e, rank_end]); omega

theorem fw_turn (t : List UInt8) : ∀ j, j ≤ t.length → fw (turn t).1 (rank t 0) j = (rank t j, t.take j)
  | 0, _ => by simp [fw]
  | j + 1, h => by
      have ih := fw_turn t j (by omega)
      have hp := rank_pos t j (by omega)
      have hne : rank t (j + 1) ≠ rank t 0 := fun e => by have := rank_inj t (j + 1) 0 (by omega) (by omega) e; omega
      have hr := rank_lt t (j + 1) (by omega)
      have hpl : place (rank t 0) (rank t (j + 1)) < (turn t).1.length := by rw [turn_len]; exact place_lt _ _ _ hne (by omega) (row_le t)
      have hg := firsts_get (turn t).1 _ hpl
      rw [longer_turn t j (by omega)] at hg
      rw [fw, ih]
      simp only [hp, if_false]
      rw [hg, seat_place _ _ hne, turn_rank t j (by omega)]
      refine Prod.ext rfl ?_
      rw [List.take_succ_eq_append_getElem (show j < t.length by omega), List.getD_eq_getElem?_getD, List.getElem?_eq_getElem (show j < t.length by omega)]
      rfl
theorem fw_turn_all (t : List UInt8) : (fw (turn t).1 (rank t 0) t.length).2 = t := by
  rw [fw_turn t _ (Nat.le_refl _)]; simp

/-- a turn that is some text's leads back to it -/
theorem un_of_turn (last : List UInt8) (row : Nat) (t : List UInt8) (h : turn t = (last, row)) : un last row last.length = some (row, t) := by
  have h1 := un_turn_all t
  have h2 := turn_row t
  have h3 := turn_len t
  rw [h] at h1 h2 h3
  simp only at h2 h3
  rw [← h2, ← h3] at h1
  exact h1
theorem fw_of_turn (last : List UInt8) (row : Nat) (t : List UInt8) (h : turn t = (last, row)) : (fw last row last.length).2 = t := by
  have h1 := fw_turn_all t
  have h2 := turn_row t
  have h3 := turn_len t
  rw [h] at h1 h2 h3
  simp only at h2 h3
  rw [← h2, ← h3] at h1
  exact h1

end Go.Proofs.Ythkndfkkgncjfab.Fo

namespace Go.Proofs.Ythkndfkkgncjfab
open Go.RowKit
set_option maxRecDepth 100000

def OwnV (w : World) (B : Nat) (v : Value) (l : List Nat) : Prop := w.ownsRow B 3 1 v l.length (I l)
theorem OwnV.below {w w' : World} {B : Nat} {v : Value} {l : List Nat} (h : OwnV w B v l) (hb : Below w.heap.size w w') : OwnV w' B v l := row_below h hb
theorem I_append (l : List Nat) (b : Nat) : I l ++ [.int .i64 (b : Int)] = I (l ++ [b]) := by simp [I]
/-- one number more -/
theorem ints_step {w w1 w0 : World} {B : Nat} {v v' : Value} {m : List Nat} {b : Nat} {o : Obj} (hu : OwnV w B v m) (hbl : Below B w0 w) (hB : B ≤ w.heap.size)
    (h1 : w1.ownsRow B 3 1 v' (m.length + 1) (I m ++ [.int .i64 (b : Int)])) (h2 : (w.alloc o).grownBy w1 v.ownBlock) : OwnV w1 B v' (m ++ [b]) ∧ Below B w0 w1 := by
  refine ⟨?_, (hbl.alloc hB o).grown h2 (by simp; omega) (fun k hk => (World.ownsRow.lt hu k hk).1)⟩
  rw [I_append] at h1
  unfold OwnV
  simpa using h1

theorem fIn_hit (l : List UInt8) (c k : Nat) (h : (l.getD k 0).toNat = c) : Fo.fIn l c (k + 1) = Fo.fIn l c k ++ [k] := by rw [Fo.fIn, if_pos h]
theorem fIn_miss (l : List UInt8) (c k : Nat) (h : ¬ (l.getD k 0).toNat = c) : Fo.fIn l c (k + 1) = Fo.fIn l c k := by rw [Fo.fIn, if_neg h, List.append_nil]
theorem f_len (l : List UInt8) (c k : Nat) : (Fo.fTo l c ++ Fo.fIn l c k).length ≤ l.length + k := by
  rw [List.length_append, Fo.fTo_len, Fo.fIn_len]
  have h1 := Fo.cnt_le (fun i => decide ((l.getD i 0).toNat < c)) l.length
  have h2 := Fo.cnt_le (fun i => decide ((l.getD i 0).toNat = c)) k
  omega

/-- F lists the places of l's bytes, in rising order -/
structure IsF (l : List UInt8) (F : List Nat) : Prop where
  get : ∀ i, (Fo.fTo l 256).getD i 0 = F.getD i 0

set_option maxRecDepth 100000 in
set_option maxHeartbeats 1000000 in
theorem firsts_any (s : ByteArray) (w : World) (hs : s.size ≤ 1000000) :
    Calls Try.prog 80 #[.string s] w fun e w' => ∃ v F, e = .returned v ∧ F.length = s.size ∧ IsF s.data.toList F ∧ OwnV w' w.heap.size v F ∧ Below w.heap.size w w' := by
  obtain ⟨i0, hi, hz0, hz1, hz2⟩ := info_parts Try.info3
  go_enter Try.func80, Try.ntmps80
  go_wp2
  go_loopw [3, 4] (fun v i wr => ∃ c : Nat, c ≤ 256 ∧ i = .int .i64 c ∧ OwnV wr w.heap.size v (Fo.fTo s.data.toList c) ∧ Below w.heap.size w wr) (fun _ i _ => 256 - (intOf i).toNat)
  case atStart => exact ⟨0, Nat.zero_le _, rfl, World.ownsRow_nil _ _ _ _, Below.refl _ _⟩
  case round =>
    obtain ⟨c, hc, rfl, hown, hbl⟩ := hrel
    obtain ⟨w1, hw1⟩ : ∃ w1, w1 = wr := ⟨_, rfl⟩
    subst hw1
    by_cases hlt : c < 256
    · have hd2 : decide ((c : Int) < 256) = true := by rw [decide_eq_true_eq]; omega
      go_wp2
      go_loopw [3, 5] (fun v i wr => ∃ k : Nat, k ≤ s.size ∧ i = .int .i64 k ∧ OwnV wr w.heap.size v (Fo.fTo s.data.toList c ++ Fo.fIn s.data.toList c k) ∧ Below w.heap.size w wr) (fun _ i _ => s.size - (intOf i).toNat)
      case atStart => exact ⟨0, Nat.zero_le _, rfl, by simpa [Fo.fIn] using hown, hbl⟩
      case round =>
        obtain ⟨k, hk, rfl, hu, hb⟩ := hrel
        clear hown hbl
        have hlen := f_len s.data.toList c k
        rw [size_len] at hlen
        by_cases hks : k < s.size
        · have hlt8 := UInt8.toNat_lt s[k]
          by_cases hby : s[k].toNat = c
          · have HB : Hid ((s.data.toList.getD k 0).toNat = c) := by show (s.data.toList.getD k 0).toNat = c; rw [getD_byte s k hks]; exact hby
            have hbt : ((s[k].toNat : Int) == (c : Int)) = true := by rw [beq_iff_eq]; omega
            clear hby
            go_wp2_with (at_builtin; refine wpList_append_own _ rfl _ _ 35 rfl w.heap.size 3 i0 (.int .i64 0) 1 8 Try.underlying35 hi hz0 hz1 hz2 rfl (by decide) _ _ _ rfl (World.ownsRow.alloc hu _) ⟨wr.heap.size, 0, none⟩ 1 1 [.int .i64 (k : Int)] rfl rfl (cell_one_new _ _ _) (by intro u hu2; simp at hu2; subst hu2; rfl) (by unfold maxLen; omega) (by omega) (by have := hb.size; simp; omega) ?_; intro v' w3 hown3 hgrow3 _)
            have R := ints_step hu hb hb.size hown3 hgrow3
            clear hown3 hgrow3 hu hb
            go_wp2
            go_roundw
            case rel => exact ⟨k + 1, by omega, by go_num, by rw [fIn_hit _ _ _ HB.out, ← List.append_assoc]; exact R.1, R.2⟩
            case measure => simp [intOf]; omega
          · have HB : Hid (¬ (s.data.toList.getD k 0).toNat = c) := by show ¬ (s.data.toList.getD k 0).toNat = c; rw [getD_byte s k hks]; exact hby
            have hbt : ((s[k].toNat : Int) == (c : Int)) = false := by rw [beq_eq_false_iff_ne]; omega
            clear hby
            go_wp2
            go_roundw
            case rel => exact ⟨k + 1, by omega, by go_num, by rw [fIn_miss _ _ _ HB.out]; exact hu, hb⟩
            case measure => simp [intOf]; omega
        · have hke : k = s.size := by omega
          subst hke
          go_wp2
          go_roundw
          case rel => exact ⟨c + 1, by omega, by go_num, hu, hb⟩
          case measure => simp [intOf]; omega
    · have hce : c = 256 := by omega
      subst hce
      go_wp2
      go_ret
      exact ⟨_, Fo.fTo s.data.toList 256, rfl, Fo.fTo_all s.data.toList, ⟨fun _ => rfl⟩, hown, hbl⟩

theorem kinds_apart {w : World} {B : Nat} {v1 v2 : Value} {n1 n2 : Nat} {x1 x2 : List Value} (h1 : w.ownsRow B 3 1 v1 n1 x1) (h2 : w.ownsRow B 5 1 v2 n2 x2) : v1.ownBlock = none ∨ v1.ownBlock ≠ v2.ownBlock := by
  rcases h1.2 with ⟨e1, _⟩ | ⟨g1, cap1, cur1, e1, _, hg1, _⟩
  · left; rw [e1]; rfl
  · right
    rcases h2.2 with ⟨e2, _⟩ | ⟨g2, cap2, cur2, e2, _, hg2, _⟩
    · rw [e1, e2]; simp [Value.ownBlock]
    · rw [e1, e2]
      intro e
      simp [Value.ownBlock] at e
      rw [e, hg2] at hg1
      simp at hg1
/-- one byte more, a row of numbers beside it -/
theorem fw_step {w w1 w0 : World} {B : Nat} {l : List Nat} {v v' f : Value} {m : List UInt8} {b : UInt8} {o : Obj} (hown : OwnV w B f l) (hu : OwnU w B v m) (hbl : Below B w0 w) (hB : B ≤ w.heap.size)
    (h1 : w1.ownsRow B 5 1 v' (m.length + 1) (U m ++ [.int .u8 (b.toNat : Int)])) (h2 : (w.alloc o).grownBy w1 v.ownBlock) : OwnV w1 B f l ∧ OwnU w1 B v' (m ++ [b]) ∧ Below B w0 w1 := by
  have hown' : OwnV (w.alloc o) B f l := World.ownsRow.alloc hown o
  have hu' : OwnU (w.alloc o) B v m := World.ownsRow.alloc hu o
  refine ⟨World.ownsRow.kept hown' h2 (kinds_apart hown' hu'), ?_, (hbl.alloc hB o).grown h2 (by simp; omega) (fun k hk => (World.ownsRow.lt hu k hk).1)⟩
  rw [U_append] at h1
  unfold OwnU
  simpa using h1
theorem OwnV.cell {w : World} {B g cap n : Nat} {l : List Nat} (h : OwnV w B (.slice (some ⟨g, 0, none⟩) n cap) l) (hn : l.length = n) (j : Nat) (hj : j < n) : w.cell? ⟨g, j, none⟩ = some (.int .i64 (l.getD j 0 : Nat)) := by
  subst hn
  rw [World.ownsRow.cellAt h j (by omega), I_get l j hj]

theorem fw_zero (l : List UInt8) (r j : Nat) (h : (Fo.fw l r j).1 = 0) (hj : j ≤ l.length) : Fo.fw l r l.length = Fo.fw l r j := by
  have := Fo.fw_stop l r j h (l.length - j)
  rwa [show j + (l.length - j) = l.length by omega] at this
theorem fw_go (l : List UInt8) (F : List Nat) (hF : IsF l F) (r j a k : Nat) (h : (Fo.fw l r j).1 = a + 1) (hk : F.getD a 0 = k) : Fo.fw l r (j + 1) = (Fo.seat r k, (Fo.fw l r j).2 ++ [l.getD k 0]) := by
  rw [Fo.fw, if_neg (by omega), h, Nat.add_sub_cancel, hF.get, hk]

set_option maxHeartbeats 400000 in
theorem rUnturn_long (s : ByteArray) (r : Int) (w : World) (hs : 120 < s.size) :
    Calls Try.prog 52 #[.string s, .int .i64 r] w fun e w' => e = .returned (.tuple #[S [], .int .i64 2]) ∧ w' = w := by
  go_enter Try.func52, Try.ntmps52
  go_wp2
  go_ret2
  exact ⟨rfl, rfl⟩
set_option maxHeartbeats 400000 in
theorem rUnturn_out (s : ByteArray) (r : Int) (w : World) (hs : s.size ≤ 120) (h : r < 0 ∨ (s.size : Int) < r) :
    Calls Try.prog 52 #[.string s, .int .i64 r] w fun e w' => e = .returned (.tuple #[S [], .int .i64 8]) ∧ w' = w := by
  rcases h with h | h
  · go_enter Try.func52, Try.ntmps52
    go_wp2
    go_ret2
    exact ⟨rfl, rfl⟩
  · have h0 : ¬ r < 0 := by omega
    go_enter Try.func52, Try.ntmps52
    go_wp2
    go_ret2
    exact ⟨rfl, rfl⟩

end Go.Proofs.Ythkndfkkgncjfab

namespace Go.Proofs.Ythkndfkkgncjfab.Do

/-- a change, as the document's own answer keeps it -/
structure Chg where
  ins : Bool
  doc : ByteArray
  id : Nat

/-- is there a Delete of this id among these? -/
def gone (cs : List Chg) (id : Nat) : Bool := cs.any fun c => !c.ins && c.id == id
/-- is the i-th change an Insert of what is still there? -/
def keep (cs : List Chg) (i : Nat) : Bool := match cs[i]? with
  | none => false
  | some c => c.ins && !gone (cs.drop (i + 1)) c.id
/-- what is there, of the first i changes -/
def thereTo (cs : List Chg) : Nat → List Chg
  | 0 => []
  | i + 1 => thereTo cs i ++ (if keep cs i then cs[i]?.toList else [])
def there (cs : List Chg) : List Chg := thereTo cs cs.length

theorem thereTo_len (cs : List Chg) : ∀ i, (thereTo cs i).length ≤ i
  | 0 => Nat.le_refl _
  | i + 1 => by
      have := thereTo_len cs i
      rw [thereTo, List.length_append]
      by_cases h : keep cs i
      · rw [if_pos h]; cases cs[i]? <;> simp <;> omega
      · rw [if_neg h]; simp; omega

/-- the inner loop: whether a change is gone, k changes behind it looked at -/
def goneTo (cs : List Chg) (g0 : Bool) (i id : Nat) (k : Nat) : Bool := g0 || ((cs.drop (i + 1)).take (k - (i + 1))).any fun c => !c.ins && c.id == id
theorem goneTo_start (cs : List Chg) (g0 : Bool) (i id : Nat) : goneTo cs g0 i id (i + 1) = g0 := by simp [goneTo]
theorem goneTo_step (cs : List Chg) (g0 : Bool) (i id k : Nat) (c : Chg) (hk : i + 1 ≤ k) (hc : cs[k]? = some c) : goneTo cs g0 i id (k + 1) = (goneTo cs g0 i id k || (!c.ins && c.id == id)) := by
  unfold goneTo
  have hlt : k < cs.length := by
    rcases Nat.lt_or_ge k cs.length with h | h
    · exact h
    · rw [List.getElem?_eq_none h] at hc; cases hc
  have e : k + 1 - (i + 1) = (k - (i + 1)) + 1 := by omega
  rw [e, List.take_succ_eq_append_getElem (by rw [List.length_drop]; omega), List.any_append, Bool.or_assoc]
  congr 2
  simp only [List.any_cons, List.any_nil, Bool.or_false, List.getElem_drop]
  have e2 : i + 1 + (k - (i + 1)) = k := by omega
  rw [List.getElem?_eq_getElem hlt] at hc
  simp only [Option.some.injEq] at hc
  simp only [e2, hc]
theorem goneTo_end (cs : List Chg) (g0 : Bool) (i id k : Nat) (hk : cs.length ≤ k) : goneTo cs g0 i id k = (g0 || gone (cs.drop (i + 1)) id) := by
  unfold goneTo gone
  rw [List.take_of_length_le (by rw [List.length_drop]; omega)]
theorem keep_eq (cs : List Chg) (i : Nat) (c : Chg) (hc : cs[i]? = some c) : keep cs i = !(!c.ins || gone (cs.drop (i + 1)) c.id) := by
  unfold keep; rw [hc]; simp
theorem thereTo_hit (cs : List Chg) (i : Nat) (c : Chg) (hc : cs[i]? = some c) (h : keep cs i = true) : thereTo cs (i + 1) = thereTo cs i ++ [c] := by
  rw [thereTo, if_pos h, hc]; rfl
theorem thereTo_miss (cs : List Chg) (i : Nat) (h : keep cs i = false) : thereTo cs (i + 1) = thereTo cs i := by
  rw [thereTo, h]; simp

end Go.Proofs.Ythkndfkkgncjfab.Do
