/- WalkL0, LawV. -/
import Derived.Test.YthkndfkkgncjfabRefSJB
import Derived.Test.YthkndfkkgncjfabLawQJA
import Derived.Test.YthkndfkkgncjfabLawU1JB
namespace Go.Proofs.Ythkndfkkgncjfab
open Go.RowKit
set_option maxRecDepth 100000

set_option maxHeartbeats 1000000 in
theorem rRows_no (s b : ByteArray) (T : List UInt8) (q : Int) (r : Int) (w : World) (hq : (q != 0) = true)
    (hun : Calls Try.prog 52 #[.string s, .int .i64 r] w fun e w' => e = .returned (.tuple #[S T, .int .i64 q]) ∧ Below w.heap.size w w') :
    Calls Try.prog 54 #[.string s, .int .i64 r, .string b] w fun e w' => e = .returned (.tuple #[.int .i64 0, .int .i64 0, .int .i64 q]) ∧ Below w.heap.size w w' := by
  have HU : Hid (Calls Try.prog 52 #[.string s, .int .i64 r] w fun e w' => e = .returned (.tuple #[S T, .int .i64 q]) ∧ Below w.heap.size w w') := hun
  clear hun
  go_enter Try.func54, Try.ntmps54
  go_wp2_with fail
  refine HU.out.mono ?_
  rintro e w1 ⟨rfl, hb1⟩
  unfold S
  go_wp2_with fail
  go_ret3
  exact ⟨rfl, hb1⟩

theorem rRows_any (s b : ByteArray) (r : Int) (w : World) (hb : b.size ≤ 9223372036854775807) :
    Calls Try.prog 54 #[.string s, .int .i64 r, .string b] w fun e w' => e = .returned (.tuple #[.int .i64 (rowRes s r b).1, .int .i64 (rowRes s r b).2.1, .int .i64 (rowRes s r b).2.2]) ∧ Below w.heap.size w w' := by
  have hun := rUnturn_any s r w
  have hlen := uRes_len s r
  unfold rowRes
  generalize (uRes s r).1 = T at *
  generalize (uRes s r).2 = q at *
  by_cases hq : q = 0
  · subst hq
    rw [if_pos rfl]
    exact rRows_yes s ⟨T.toArray⟩ b r w hb hlen hun
  · rw [if_neg hq]
    exact rRows_no s b T q r w (by rw [bne_iff_ne]; exact hq) hun

set_option maxHeartbeats 1000000 in
theorem turned_any (s b : ByteArray) (r : Int) (w : World) (hb : b.size ≤ 9223372036854775807) :
    Calls Try.prog 36 #[.string s, .int .i64 r, .string b] w fun e w' => e = .returned (.bool true) ∧ Below w.heap.size w w' := by
  have h1 := fun w => Unturn_any s r w
  have h2 := fun w => rUnturn_any s r w
  have h3 := fun w => Rows_any s b r w hb
  have h4 := fun w => rRows_any s b r w hb
  generalize (uRes s r).1 = T at *
  generalize (uRes s r).2 = q at *
  generalize (rowRes s r b).1 = x at *
  generalize (rowRes s r b).2.1 = y at *
  generalize (rowRes s r b).2.2 = z at *
  unfold S at h1 h2
  have H1 : Hid (∀ w, Calls Try.prog 51 #[.string s, .int .i64 r] w fun e w' => e = .returned (.tuple #[.string ⟨T.toArray⟩, .int .i64 q]) ∧ Below w.heap.size w w') := h1
  have H2 : Hid (∀ w, Calls Try.prog 52 #[.string s, .int .i64 r] w fun e w' => e = .returned (.tuple #[.string ⟨T.toArray⟩, .int .i64 q]) ∧ Below w.heap.size w w') := h2
  have H3 : Hid (∀ w, Calls Try.prog 53 #[.string s, .int .i64 r, .string b] w fun e w' => e = .returned (.tuple #[.int .i64 x, .int .i64 y, .int .i64 z]) ∧ Below w.heap.size w w') := h3
  have H4 : Hid (∀ w, Calls Try.prog 54 #[.string s, .int .i64 r, .string b] w fun e w' => e = .returned (.tuple #[.int .i64 x, .int .i64 y, .int .i64 z]) ∧ Below w.heap.size w w') := h4
  clear h1 h2 h3 h4
  go_enter Try.func36, Try.ntmps36
  go_wp2_with fail
  refine (H1.out _).mono ?_
  rintro e w1 ⟨rfl, hb1⟩
  have hz1 := hb1.size
  go_wp2_with fail
  refine (H2.out _).mono ?_
  rintro e w2 ⟨rfl, hb2⟩
  have hz2 := hb2.size
  go_wp2_with fail
  refine (num_any _ _).mono ?_
  rintro e w3 ⟨rfl, hw3⟩; rw [hw3]; clear hw3
  go_wp2_with fail
  refine (H3.out _).mono ?_
  rintro e w3 ⟨rfl, hb3⟩
  have hz3 := hb3.size
  go_wp2_with fail
  refine (H4.out _).mono ?_
  rintro e w4 ⟨rfl, hb4⟩
  go_wp2_with fail
  refine (num_any _ _).mono ?_
  rintro e w5 ⟨rfl, hw5⟩; rw [hw5]; clear hw5
  go_wp2_with fail
  go_ret
  exact ⟨rfl, ((hb1.trans (hb2.mono (by omega))).trans (hb3.mono (by omega))).trans (hb4.mono (by omega))⟩

end Go.Proofs.Ythkndfkkgncjfab

namespace Go.Proofs.Ythkndfkkgncjfab
open Go.RowKit
set_option maxRecDepth 100000

section
variable {At : World → Nat → Int → Int → Int → List Do.Chg → (Nat → Prop) → Prop}
variable {B G D m : Nat} {v : Value} {bs : List Bk}

/-- what Order tells -/
def ordV (s : ByteArray) : List Nat := if 120 < s.size then [] else Fo.ord s.data.toList
def ordE (s : ByteArray) : Int := if 120 < s.size then 2 else 0
theorem ordV_len (s : ByteArray) : (ordV s).length ≤ 121 := by
  unfold ordV
  split
  · simp
  · rw [Fo.ord_length]
    have : s.data.toList.length = s.size := rfl
    omega
theorem Order_v (s : ByteArray) (w : World) : Calls Try.prog 45 #[.string s] w fun e w' => ∃ u, e = .returned (.tuple #[u, .int .i64 (ordE s)]) ∧ OwnV w' w.heap.size u (ordV s) ∧ Below w.heap.size w w' := by
  unfold ordV ordE
  by_cases h : 120 < s.size
  · rw [if_pos h, if_pos h]
    refine (Order_long s w h).mono ?_
    rintro e w' ⟨he, rfl⟩
    exact ⟨_, he, World.ownsRow_nil _ _ _ _, Below.refl _ _⟩
  · rw [if_neg h, if_neg h]
    refine (Order_ok s w (by omega)).mono ?_
    rintro e w' ⟨g, he, ho, hb⟩
    refine ⟨_, he, ?_, hb⟩
    have e : (Fo.ord s.data.toList).length = s.size + 1 := by rw [Fo.ord_length]; rfl
    unfold OwnI at ho
    unfold OwnV
    rw [e] at ho ⊢
    exact ho
theorem rOrder_v (s : ByteArray) (w : World) : Calls Try.prog 46 #[.string s] w fun e w' => ∃ u, e = .returned (.tuple #[u, .int .i64 (ordE s)]) ∧ OwnV w' w.heap.size u (ordV s) ∧ Below w.heap.size w w' := by
  unfold ordV ordE
  by_cases h : 120 < s.size
  · rw [if_pos h, if_pos h]
    refine (rOrder_long s w h).mono ?_
    rintro e w' ⟨he, rfl⟩
    exact ⟨_, he, World.ownsRow_nil _ _ _ _, Below.refl _ _⟩
  · rw [if_neg h, if_neg h]
    refine (rOrder_ok s w (by omega)).mono ?_
    rintro e w' ⟨g, he, ho, hb⟩
    refine ⟨_, he, ?_, hb⟩
    have e : (Fo.ord s.data.toList).length = s.size + 1 := by rw [Fo.ord_length]; rfl
    unfold OwnI at ho
    unfold OwnV
    rw [e] at ho ⊢
    exact ho
/-- what Turn tells -/
def trnS (s : ByteArray) : ByteArray := if 120 < s.size then ⟨#[]⟩ else ⟨(Fo.turn s.data.toList).1.toArray⟩
def trnR (s : ByteArray) : Int := if 120 < s.size then 0 else ((Fo.turn s.data.toList).2 : Nat)
theorem Turn_v (s : ByteArray) (w : World) : Calls Try.prog 49 #[.string s] w fun e w' => e = .returned (.tuple #[.string (trnS s), .int .i64 (trnR s), .int .i64 (ordE s)]) ∧ Below w.heap.size w w' := by
  unfold trnS trnR ordE
  by_cases h : 120 < s.size
  · rw [if_pos h, if_pos h, if_pos h]
    refine (Turn_long s w h).mono ?_
    rintro e w' ⟨he, rfl⟩
    exact ⟨he, Below.refl _ _⟩
  · rw [if_neg h, if_neg h, if_neg h]
    exact Turn_ok s w (by omega)
theorem rTurn_v (s : ByteArray) (w : World) : Calls Try.prog 50 #[.string s] w fun e w' => e = .returned (.tuple #[.string (trnS s), .int .i64 (trnR s), .int .i64 (ordE s)]) ∧ Below w.heap.size w w' := by
  unfold trnS trnR ordE
  by_cases h : 120 < s.size
  · rw [if_pos h, if_pos h, if_pos h]
    refine (rTurn_long s w h).mono ?_
    rintro e w' ⟨he, rfl⟩
    exact ⟨he, Below.refl _ _⟩
  · rw [if_neg h, if_neg h, if_neg h]
    exact rTurn_ok s w (by omega)

set_option maxHeartbeats 2000000 in
theorem sorted_lays (hC : Serves At 28 21 23 60 62 20 58 11) (own : Nat → Nat) (s : ByteArray) (w : World) (hm : m ≤ 1999999999998) (h : Inv At (DS m) w B G D v bs own) (hB : B ≤ w.heap.size) :
    Calls Try.prog 34 #[.pointer (some ⟨G, 0, none⟩), .string s] w fun e w' => e = .returned (.bool true) ∧ (∃ own', Inv At (DS (m + 1)) w' B G D v bs own') ∧ Below B w w' := by
  have hD := drawn_some m
  have hlen := ordV_len s
  have H1 : Hid (∀ w, Calls Try.prog 45 #[.string s] w fun e w' => ∃ u, e = .returned (.tuple #[u, .int .i64 (ordE s)]) ∧ OwnV w' w.heap.size u (ordV s) ∧ Below w.heap.size w w') := fun w => Order_v s w
  have H2 : Hid (∀ w, Calls Try.prog 46 #[.string s] w fun e w' => ∃ u, e = .returned (.tuple #[u, .int .i64 (ordE s)]) ∧ OwnV w' w.heap.size u (ordV s) ∧ Below w.heap.size w w') := fun w => rOrder_v s w
  have H3 : Hid (∀ w, Calls Try.prog 49 #[.string s] w fun e w' => e = .returned (.tuple #[.string (trnS s), .int .i64 (trnR s), .int .i64 (ordE s)]) ∧ Below w.heap.size w w') := fun w => Turn_v s w
  have H4 : Hid (∀ w, Calls Try.prog 50 #[.string s] w fun e w' => e = .returned (.tuple #[.string (trnS s), .int .i64 (trnR s), .int .i64 (ordE s)]) ∧ Below w.heap.size w w') := fun w => rTurn_v s w
  generalize ordV s = q1 at *
  generalize ordE s = q2 at *
  generalize trnS s = q3 at *
  generalize trnR s = q4 at *
  go_enter Try.func34, Try.ntmps34
  go_wp2_with fail
  refine (H1.out _).mono ?_
  rintro e w2 ⟨lv, rfl, hlv, hb2⟩
  have s2 := hb2.size
  have hI2 := h.quiet hC hD hb2
  go_wp2_with fail
  refine (H2.out _).mono ?_
  rintro e w3 ⟨mv, rfl, hmv, hb3⟩
  have s3 := hb3.size
  have hlv3 := hlv.below hb3
  have hI3 := hI2.quiet hC hD hb3
  clear hlv hI2
  go_wp2_with fail
  refine (sameI_any _ _ lv mv q1 w3 (by omega) hlv3 hmv).mono ?_
  rintro e w4 ⟨rfl, hb4⟩
  have s4 := hb4.size
  have hlv4 := hlv3.below hb4
  have hI4 := hI3.quiet hC hD hb4
  clear hlv3 hmv hI3
  have cD : w4.cell? ⟨G, 1, none⟩ = some (.pointer (some ⟨D, 0, none⟩)) := by rw [cell_of_row w4 _ 1 _ 79 (0, 0) hI4.wo]; rfl
  have h0 : ∀ k, w.heap.size ≤ k → own k = 0 := fun k hk => by
    cases hc : own k with
    | zero => rfl
    | succ n => have := (h.mine k (by rw [hc]; omega)).2; omega
  have hlb : ∀ g, lv.ownBlock = some g → w.heap.size ≤ g := fun g hg => by have := (World.ownsRow.lt hlv4 g hg).1; omega
  obtain ⟨hmm, vi, vh, vn, vm, Li, Lh, hda⟩ := hI4.dr
  have HK : Hid (Calls Try.prog 48 #[.pointer (some ⟨D, 0, none⟩), lv] w4 fun e w' => e = .returned (.tuple #[]) ∧ Only (fun k => own k = 2 ∨ lv.ownBlock = some k) w4 w' ∧ ∃ G, DS (m + 1) w' D G ∧ ∀ k, G k → own k = 2 ∨ lv.ownBlock = some k ∨ w4.heap.size ≤ k) :=
    keepI_any m D _ vi vh vn vm Li Lh lv q1.length (I q1) w4 hm (by omega) hda (OwnV.weaken' hlv4) (fun g hg => by rw [h0 g (hlb g hg)]; decide)
  clear hda hlv4
  go_wp2_with fail
  refine HK.out.mono ?_
  rintro e w5 ⟨rfl, ho5, hn5⟩
  obtain ⟨own', hI5⟩ := hI4.drawStep hC (drawn_some (m + 1)) (fun k => lv.ownBlock = some k) (fun k hk => ⟨h0 k (hlb k hk), by have := hlb k hk; omega⟩) ho5 hn5 (by omega)
  have hbl : Below B w w5 := by
    refine (hb2.trans ((hb3.mono (by omega)).trans (hb4.mono (by omega)))).mono hB |>.trans ⟨ho5.os, ho5.tape, ho5.output, ho5.size, fun k hk => ho5.block k (by omega) (fun hf => ?_)⟩
    rcases hf with hf | hf
    · have := (h.mine k (by rw [hf]; decide)).1; omega
    · have := hlb k hf; omega
  have s5 := hbl.size
  clear HK hI4 cD ho5 hn5
  go_wp2_with fail
  refine (num_any _ _).mono ?_
  rintro e w6 ⟨rfl, hw6⟩; rw [hw6]; clear hw6
  go_wp2_with fail
  refine (H3.out _).mono ?_
  rintro e w6 ⟨rfl, hb6⟩
  have s6 := hb6.size
  have hI6 := hI5.quiet hC (drawn_some (m + 1)) hb6
  go_wp2_with fail
  refine (H4.out _).mono ?_
  rintro e w7 ⟨rfl, hb7⟩
  have hI7 := hI6.quiet hC (drawn_some (m + 1)) hb7
  go_wp2_with fail
  refine (num_any _ _).mono ?_
  rintro e w8 ⟨rfl, hw8⟩; rw [hw8]; clear hw8
  go_wp2_with fail
  go_ret
  exact ⟨rfl, ⟨own', hI7⟩, (hbl.trans (hb6.mono (by omega))).trans (hb7.mono (by omega))⟩

end

end Go.Proofs.Ythkndfkkgncjfab
