/- ShtA, ShtC, ShtD, ShtE, ShtB, ShtG, ShtF. -/
import Derived.Test.YthkndfkkgncjfabRefSJB
import Derived.Test.YthkndfkkgncjfabFolGJA
import Derived.Deep.Upon
namespace Go.Proofs.Ythkndfkkgncjfab
open Go.RowKit
set_option maxRecDepth 100000

theorem Try.info165 : (Try.prog.info? 165).map (fun i => (i.zero, i.size, i.bytes)) = some (some (.agg #[.int .i64 0, .int .i64 0, .bool false]), 3, 24) := by kernel_rfl

/-- a sheet's cells -/
def SH1 (g : Pa.Pg) : List Value := [.int .i64 (g.id : Int), .int .i64 ((g.doc.size : Int) + 1), .bool g.dead]
def SH (l : List Pa.Pg) : List Value := l.flatMap SH1
theorem SH_append (a b : List Pa.Pg) : SH (a ++ b) = SH a ++ SH b := by simp [SH]
theorem SH_len (l : List Pa.Pg) : (SH l).length = l.length * 3 := by
  induction l with
  | nil => rfl
  | cons c r ih => rw [SH, List.flatMap_cons, List.length_append]; show 3 + (SH r).length = _; rw [ih, List.length_cons]; omega
theorem SH_get (l : List Pa.Pg) (k j : Nat) (d : Pa.Pg) (hd : l[k]? = some d) (hj : j < 3) : (SH l)[k * 3 + j]? = (SH1 d)[j]? := by
  induction l generalizing k with
  | nil => simp at hd
  | cons e r ih =>
    cases k with
    | zero =>
      simp at hd; subst hd
      show (SH1 e ++ SH r)[0 * 3 + j]? = _
      rw [Nat.zero_mul, Nat.zero_add, List.getElem?_append_left (by show j < 3; exact hj)]
    | succ k =>
      simp at hd
      show (SH1 e ++ SH r)[(k + 1) * 3 + j]? = _
      rw [List.getElem?_append_right (by show 3 ≤ _; omega), ← ih k hd]
      congr 1
      show (k + 1) * 3 + j - 3 = _; omega
theorem SH_mark (l : List Pa.Pg) : SH (Pa.mark l) = SH l := by
  unfold SH Pa.mark
  rw [List.flatMap_map]
  rfl
/-- a row of sheets -/
def OwnS (w : World) (B : Nat) (v : Value) (l : List Pa.Pg) : Prop := w.ownsRow B 165 3 v l.length (SH l)
def ShAt (w : World) (g k : Nat) (d : Pa.Pg) : Prop := w.cell? ⟨g, k * 3, none⟩ = some (.int .i64 (d.id : Int)) ∧ w.cell? ⟨g, k * 3 + 1, none⟩ = some (.int .i64 ((d.doc.size : Int) + 1)) ∧ w.cell? ⟨g, k * 3 + 2, none⟩ = some (.bool d.dead)
theorem ShAt.later {w w' : World} {g k : Nat} {d : Pa.Pg} (h : ShAt w g k d) (hb : Below w.heap.size w w') : ShAt w' g k d := ⟨cell_later hb h.1, cell_later hb h.2.1, cell_later hb h.2.2⟩
theorem OwnS.nil (w : World) (B : Nat) : OwnS w B (.slice none 0 0) [] := World.ownsRow_nil _ _ _ _
theorem OwnS.below {w w' : World} {B : Nat} {v : Value} {l : List Pa.Pg} (h : OwnS w B v l) (hb : Below w.heap.size w w') : OwnS w' B v l := row_below h hb
theorem OwnS.any {w : World} {B : Nat} {v : Value} {l : List Pa.Pg} (h : OwnS w B v l) : ∃ ao cap, v = .slice ao l.length cap ∧ ∀ k d, l[k]? = some d → ∃ g, ao = some ⟨g, 0, none⟩ ∧ ShAt w g k d := by
  rcases h.2 with ⟨e, hn⟩ | ⟨g, cap, cur, e, _⟩
  · refine ⟨none, 0, by rw [e, hn], fun k r hr => ?_⟩
    have hk := (List.getElem?_eq_some_iff.1 hr).1
    omega
  · subst e
    refine ⟨_, cap, rfl, fun k d hd => ⟨g, rfl, ?_⟩⟩
    have hk := (List.getElem?_eq_some_iff.1 hd).1
    have key : ∀ j, j < 3 → w.cell? ⟨g, k * 3 + j, none⟩ = (SH1 d)[j]? := fun j hj => by
      rw [World.ownsRow.cellAt h (k * 3 + j) (by omega), SH_get l k j d hd hj]
    exact ⟨key 0 (by omega), key 1 (by omega), key 2 (by omega)⟩
theorem OwnS.weaken {w : World} {B C : Nat} {v : Value} {l : List Pa.Pg} (h : OwnS w B v l) (hc : C ≤ B) : OwnS w C v l := by
  refine ⟨h.1, ?_⟩
  rcases h.2 with hn | ⟨g1, cap, cur, e, hB, rest⟩
  · exact .inl hn
  · exact .inr ⟨g1, cap, cur, e, Nat.le_trans hc hB, rest⟩
theorem OwnS.only {w w' : World} {B : Nat} {v : Value} {l : List Pa.Pg} {F : Nat → Prop} (k : OwnS w B v l) (h : Only F w w') (hF : ∀ q, v.ownBlock = some q → ¬ F q) : OwnS w' B v l := by
  refine ⟨k.1, ?_⟩
  rcases k.2 with h2 | ⟨g2, cap2, cur2, h2, hB, hg2, rest⟩
  · exact .inl h2
  · subst h2
    exact .inr ⟨g2, cap2, cur2, rfl, hB, by rw [h.block g2 (lt_of_block hg2) (hF g2 rfl)]; exact hg2, rest⟩
theorem OwnS.lt {w : World} {B : Nat} {v : Value} {l : List Pa.Pg} (k : OwnS w B v l) (q : Nat) (hq : v.ownBlock = some q) : q < w.heap.size := (World.ownsRow.lt k q hq).2
theorem OwnS.at_least {w : World} {B : Nat} {v : Value} {l : List Pa.Pg} (k : OwnS w B v l) (q : Nat) (hq : v.ownBlock = some q) : B ≤ q := (World.ownsRow.lt k q hq).1
/-- one sheet more -/
theorem OwnS.more {w w1 w0 : World} {B : Nat} {v v' : Value} {m : List Pa.Pg} {c : Pa.Pg} {o : Obj} (hu : OwnS w B v m) (hbl : Below B w0 w) (hB : B ≤ w.heap.size)
    (h1 : w1.ownsRow B 165 3 v' (m.length + 1) (SH m ++ SH1 c)) (h2 : (w.alloc o).grownBy w1 v.ownBlock) : OwnS w1 B v' (m ++ [c]) ∧ Below B w0 w1 := by
  refine ⟨?_, (hbl.alloc hB o).grown h2 (by simp; omega) (fun k hk => (World.ownsRow.lt hu k hk).1)⟩
  unfold OwnS
  rw [SH_append, List.length_append]
  have : SH [c] = SH1 c := by simp [SH]
  rw [this]; exact h1

namespace Pa
/-- the weight of those that are asked for -/
def wsel (d a : Bool) (l : List Pg) : Nat := wt (l.filter fun g => (g.dead && d) || (!g.dead && a))
theorem wsel_all (l : List Pg) : wsel true true l = wt l := by
  unfold wsel
  rw [List.filter_eq_self.2]
  intro g _
  cases g.dead <;> rfl
theorem wsel_dead (l : List Pg) : wsel true false l = wt (dead l) := by
  unfold wsel dead
  congr 1
  apply List.filter_congr
  intro g _
  cases g.dead <;> rfl
theorem wsel_alive (l : List Pg) : wsel false true l = wt (alive l) := by
  unfold wsel alive
  congr 1
  apply List.filter_congr
  intro g _
  cases g.dead <;> rfl
theorem wsel_step (d a : Bool) (l : List Pg) (k : Nat) (g : Pg) (h : l[k]? = some g) : wsel d a (l.take (k + 1)) = wsel d a (l.take k) + (if (g.dead && d) || (!g.dead && a) then g.doc.size + 1 else 0) := by
  obtain ⟨hk, rfl⟩ := List.getElem?_eq_some_iff.1 h
  unfold wsel
  rw [List.take_succ_eq_append_getElem hk, List.filter_append, wt_append]
  congr 1
  rw [List.filter_cons]
  split
  · rfl
  · rfl
theorem wsel_le (d a : Bool) (l : List Pg) (k : Nat) : wsel d a (l.take k) ≤ wt l := by
  unfold wsel
  refine Nat.le_trans (wt_filter _ _) ?_
  have := wt_append (l.take k) (l.drop k)
  rw [List.take_append_drop] at this
  omega
end Pa

set_option maxHeartbeats 1000000 in
theorem rWeight_any (v : Value) (l : List Pa.Pg) (d a : Bool) (w : World) (h : OwnS w 0 v l) (hl : Pa.wt l ≤ 1000000) :
    Calls Try.prog 91 #[v, .bool d, .bool a] w fun e w' => e = .returned (.int .i64 (Pa.wsel d a l : Nat)) ∧ w' = w := by
  obtain ⟨ao, cap, rfl, hcell⟩ := h.any
  have hwl := Pa.wt_len l
  have HC : Hid (∀ k d, l[k]? = some d → ∃ g, ao = some ⟨g, 0, none⟩ ∧ ShAt w g k d) := hcell
  clear hcell h
  go_enter Try.func91, Try.ntmps91
  go_wp2
  go_loopw [7, 8] (fun n i wr => ∃ k : Nat, k ≤ l.length ∧ i = .int .i64 k ∧ n = .int .i64 (Pa.wsel d a (l.take k) : Nat) ∧ wr = w) (fun _ i _ => l.length - (intOf i).toNat)
  case atStart => exact ⟨0, Nat.zero_le _, rfl, rfl, rfl⟩
  case round =>
    obtain ⟨k, hk, rfl, rfl, rfl⟩ := hrel
    by_cases hlt : k < l.length
    · obtain ⟨g, hg⟩ : ∃ g, l[k]? = some g := ⟨l[k], List.getElem?_eq_getElem hlt⟩
      obtain ⟨gb, rfl, x0, x1, x2⟩ := HC.out k g hg
      have hst := Pa.wsel_step d a l k g hg
      have hle := Pa.wsel_le d a l k
      have hle1 := Pa.wsel_le d a l (k + 1)
      have HS : Hid (Pa.wsel d a (l.take (k + 1)) = Pa.wsel d a (l.take k) + (if (g.dead && d) || (!g.dead && a) then g.doc.size + 1 else 0)) := hst
      clear hg
      generalize Pa.wsel d a (l.take k) = n at *
      obtain ⟨q, hq⟩ : ∃ q, g.dead = q := ⟨_, rfl⟩
      rw [hq] at x2 hst
      have HQ : Hid (g.dead = q) := hq
      clear hq
      cases q <;> cases d <;> cases a
      all_goals
        simp at hst
        clear HS
        go_wp2
        exact ⟨⟨k + 1, by omega, by go_num, by rw [hst] <;> go_num, trivial⟩, by simp [intOf]; omega⟩
    · have hke : k = l.length := by omega
      subst hke
      rw [List.take_of_length_le (Nat.le_refl _)]
      go_wp2
      go_ret
      exact ⟨rfl, rfl⟩

end Go.Proofs.Ythkndfkkgncjfab

namespace Go.Proofs.Ythkndfkkgncjfab
open Go.RowKit
set_option maxRecDepth 100000

namespace Pa
/-- those that stay -/
def stays (id : Int) (g : Pg) : Bool := !((g.id : Int) == id) && (decide (0 ≤ id) || !g.dead)
theorem stays_alive (l : List Pg) : l.filter (stays (-1)) = alive l := by
  unfold alive
  apply List.filter_congr
  intro g _
  unfold stays
  have h : ((g.id : Int) == -1) = false := by rw [beq_eq_false_iff_ne]; omega
  rw [h]
  cases g.dead <;> rfl
theorem stays_id (id : Nat) (l : List Pg) : l.filter (stays (id : Int)) = l.filter fun g => !(g.id == id) := by
  apply List.filter_congr
  intro g _
  unfold stays
  have h : decide (0 ≤ (id : Int)) = true := by rw [decide_eq_true_eq]; omega
  rw [h, Bool.true_or, Bool.and_true]
  by_cases e : g.id = id
  · rw [e]; simp
  · have h1 : ((g.id : Int) == (id : Int)) = false := by rw [beq_eq_false_iff_ne]; omega
    have h2 : (g.id == id) = false := by rw [beq_eq_false_iff_ne]; exact e
    rw [h1, h2]
theorem filter_take (f : Pg → Bool) (l : List Pg) (k : Nat) (g : Pg) (h : l[k]? = some g) : (l.take (k + 1)).filter f = (l.take k).filter f ++ (if f g then [g] else []) := by
  obtain ⟨hk, rfl⟩ := List.getElem?_eq_some_iff.1 h
  rw [List.take_succ_eq_append_getElem hk, List.filter_append, List.filter_cons]
  rfl
end Pa

set_option maxHeartbeats 1000000 in
theorem rLeft_any (v : Value) (l : List Pa.Pg) (id : Int) (w : World) (h : OwnS w 0 v l) (hl : l.length ≤ 1000000) :
    Calls Try.prog 106 #[v, .int .i64 id] w fun e w' => ∃ u, e = .returned u ∧ OwnS w' w.heap.size u (l.filter (Pa.stays id)) ∧ Below w.heap.size w w' := by
  obtain ⟨i0, hi, hz0, hz1, hz2⟩ := info_parts Try.info165
  obtain ⟨ao, cap, rfl, hcell⟩ := h.any
  have HC : Hid (∀ k d, l[k]? = some d → ∃ g, ao = some ⟨g, 0, none⟩ ∧ ShAt w g k d) := hcell
  clear hcell h
  go_enter Try.func106, Try.ntmps106
  go_wp2
  go_loopw [5, 6] (fun u i wr => ∃ k : Nat, k ≤ l.length ∧ i = .int .i64 k ∧ OwnS wr w.heap.size u ((l.take k).filter (Pa.stays id)) ∧ Below w.heap.size w wr) (fun _ i _ => l.length - (intOf i).toNat)
  case atStart => exact ⟨0, Nat.zero_le _, rfl, OwnS.nil _ _, Below.refl _ _⟩
  case round =>
    obtain ⟨k, hk, rfl, hu, hb⟩ := hrel
    have hbs := hb.size
    by_cases hlt : k < l.length
    · obtain ⟨g, hg⟩ : ∃ g, l[k]? = some g := ⟨l[k], List.getElem?_eq_getElem hlt⟩
      obtain ⟨gb, rfl, hx⟩ := HC.out k g hg
      obtain ⟨x0, x1, x2⟩ := hx.later hb
      have HD := Pa.filter_take (Pa.stays id) l k g hg
      have hlen : ((l.take k).filter (Pa.stays id)).length ≤ 1000000 := by
        have := List.length_filter_le (Pa.stays id) (l.take k)
        rw [List.length_take] at this; omega
      have hnews := World.news_of_block (heap_alloc_new wr (.cells #[.int .i64 (g.id : Int), .int .i64 ((g.doc.size : Int) + 1), .bool g.dead] 165))
      obtain ⟨wo, hwo⟩ : ∃ wo, wo = wr := ⟨_, rfl⟩
      subst hwo
      clear hx hg
      by_cases h1 : (g.id : Int) = id
      · have hst : Pa.stays id g = false := by unfold Pa.stays; rw [h1]; simp
        have hq : ((g.id : Int) != id) = false := by rw [h1]; simp
        rw [hst] at HD
        have HD' : Hid ((l.take (k + 1)).filter (Pa.stays id) = (l.take k).filter (Pa.stays id)) := by show _ = _; simpa using HD
        clear HD hst h1 hnews
        go_wp2
        exact ⟨⟨k + 1, by omega, by go_num, by rw [HD'.out]; exact hu, hb⟩, by simp [intOf]; omega⟩
      · have hq : ((g.id : Int) != id) = true := by rw [bne_iff_ne]; exact h1
        by_cases h2 : 0 ≤ id
        · have hst : Pa.stays id g = true := by
            unfold Pa.stays
            have e1 : ((g.id : Int) == id) = false := by rw [beq_eq_false_iff_ne]; exact h1
            have e2 : decide (0 ≤ id) = true := by rw [decide_eq_true_eq]; exact h2
            rw [e1, e2]; rfl
          rw [hst] at HD
          have HD' : Hid ((l.take (k + 1)).filter (Pa.stays id) = (l.take k).filter (Pa.stays id) ++ [g]) := by show _ = _; simpa using HD
          clear HD hst h1
          go_wp2_with (at_builtin; refine wpList_append_own _ rfl _ _ 152 rfl w.heap.size 165 i0 (.agg #[.int .i64 0, .int .i64 0, .bool false]) 3 24 Try.underlying152 hi hz0 hz1 hz2 rfl (by decide) _ _ _ rfl (World.ownsRow.alloc hu _) ⟨wo.heap.size, 0, none⟩ 1 1 (SH1 g) rfl rfl hnews (by intro u hu2; simp [SH1] at hu2; rcases hu2 with rfl | rfl | rfl <;> rfl) (by unfold maxLen; omega) (by omega) (by simp; omega) ?_; intro v' w3 hown3 hgrow3 _)
          have R := OwnS.more (c := g) hu hb hbs hown3 hgrow3
          clear hown3 hgrow3 hu hb
          go_wp2
          exact ⟨⟨k + 1, by omega, by go_num, by rw [HD'.out]; exact R.1, R.2⟩, by simp [intOf]; omega⟩
        · obtain ⟨q, hd⟩ : ∃ q, g.dead = q := ⟨_, rfl⟩
          have hst : Pa.stays id g = !q := by
            unfold Pa.stays
            have e1 : ((g.id : Int) == id) = false := by rw [beq_eq_false_iff_ne]; exact h1
            have e2 : decide (0 ≤ id) = false := by rw [decide_eq_false_iff_not]; exact h2
            rw [e1, e2, hd]; rfl
          have HSG : Hid (SH1 g = [.int .i64 (g.id : Int), .int .i64 ((g.doc.size : Int) + 1), .bool q]) := by show _ = _; unfold SH1; rw [hd]
          rw [hst] at HD
          rw [hd] at x2 hnews
          clear hd hst h1
          cases q
          · have HD' : Hid ((l.take (k + 1)).filter (Pa.stays id) = (l.take k).filter (Pa.stays id) ++ [g]) := by show _ = _; simpa using HD
            clear HD
            go_wp2_with (at_builtin; refine wpList_append_own _ rfl _ _ 152 rfl w.heap.size 165 i0 (.agg #[.int .i64 0, .int .i64 0, .bool false]) 3 24 Try.underlying152 hi hz0 hz1 hz2 rfl (by decide) _ _ _ rfl (World.ownsRow.alloc hu _) ⟨wo.heap.size, 0, none⟩ 1 1 [.int .i64 (g.id : Int), .int .i64 ((g.doc.size : Int) + 1), .bool false] rfl rfl hnews (by intro u hu2; simp at hu2; rcases hu2 with rfl | rfl | rfl <;> rfl) (by unfold maxLen; omega) (by omega) (by simp; omega) ?_; intro v' w3 hown3 hgrow3 _)
            have R := OwnS.more (c := g) hu hb hbs (by rw [HSG.out]; exact hown3) hgrow3
            clear hown3 hgrow3 hu hb
            go_wp2
            exact ⟨⟨k + 1, by omega, by go_num, by rw [HD'.out]; exact R.1, R.2⟩, by simp [intOf]; omega⟩
          · have HD' : Hid ((l.take (k + 1)).filter (Pa.stays id) = (l.take k).filter (Pa.stays id)) := by show _ = _; simpa using HD
            clear HD hnews
            go_wp2
            exact ⟨⟨k + 1, by omega, by go_num, by rw [HD'.out]; exact hu, hb⟩, by simp [intOf]; omega⟩
    · have hke : k = l.length := by omega
      subst hke
      rw [List.take_of_length_le (Nat.le_refl _)] at hu
      go_wp2
      go_ret
      exact ⟨_, rfl, hu, hb⟩

/-- the first power of two above n -/
theorem bits_go (n b : Nat) (h1 : b = 0 ∨ 2 ^ (b - 1) ≤ n) (h2 : ¬ 2 ^ b ≤ n) : Pa.bits n = b := by
  unfold Pa.bits
  split
  · rename_i h0
    rcases h1 with h1 | h1
    · exact h1.symm
    · subst h0
      have := Nat.two_pow_pos (b - 1)
      omega
  · rename_i h0
    rcases h1 with h1 | h1
    · subst h1; simp at h2; omega
    · have hb : b ≠ 0 := by
        intro e; subst e; simp at h2; omega
      have e1 : Nat.log2 n < b := (Nat.log2_lt h0).2 (by omega)
      have e2 : b - 1 ≤ Nat.log2 n := (Nat.le_log2 h0).2 h1
      omega
theorem two_le (b n : Nat) (h : 2 ^ b ≤ n) (hn : n ≤ 1000000) : b ≤ 20 := by
  rcases Nat.lt_or_ge b 21 with h1 | h1
  · omega
  · have := Nat.pow_le_pow_right (show 0 < 2 by omega) h1
    omega

set_option maxHeartbeats 1000000 in
theorem rBits_any (n : Nat) (hn : n ≤ 1000000) (w : World) :
    Calls Try.prog 109 #[.int .i64 (n : Int)] w fun e w' => e = .returned (.int .i64 (Pa.bits n : Nat)) ∧ w' = w := by
  go_enter Try.func109, Try.ntmps109
  go_wp2
  go_loopw [3, 4] (fun q p wr => ∃ b : Nat, (b = 0 ∨ 2 ^ (b - 1) ≤ n) ∧ b ≤ 21 ∧ q = .int .i64 (b : Nat) ∧ p = .int .i64 ((2 ^ b : Nat) : Int) ∧ wr = w) (fun q _ _ => 22 - (intOf q).toNat)
  case atStart => exact ⟨0, .inl rfl, by omega, rfl, rfl, rfl⟩
  case round =>
    obtain ⟨b, hb1, hb2, rfl, rfl, rfl⟩ := hrel
    have HB1 : Hid (b = 0 ∨ 2 ^ (b - 1) ≤ n) := hb1
    have hpw : 2 ^ b ≤ 4000000 := Nat.le_trans (Nat.pow_le_pow_right (by omega) hb2) (by decide)
    have hp1 := Nat.two_pow_pos b
    have HP : Hid (2 ^ (b + 1) = 2 * 2 ^ b) := by show _ = _; rw [Nat.pow_succ]; omega
    by_cases hle : 2 ^ b ≤ n
    · have HT : Hid (b ≤ 20) := two_le b n hle hn
      have HL : Hid (2 ^ b ≤ n) := hle
      have hw : IntKind.i64.wrap (2 * ((2 ^ b : Nat) : Int)) = 2 * ((2 ^ b : Nat) : Int) := by rw [IntKind.wrap_i64]; omega
      clear hb1
      generalize hpb : 2 ^ b = P at *
      go_wp2
      have hT := HT.out
      exact ⟨⟨b + 1, .inr (by show 2 ^ (b + 1 - 1) ≤ n; rw [show b + 1 - 1 = b by omega, hpb]; exact HL.out), by omega, by go_num, by rw [HP.out] <;> go_num, trivial⟩, by simp [intOf]; omega⟩
    · have HE : Hid (Pa.bits n = b) := bits_go n b hb1 hle
      clear hb1
      generalize hpb : 2 ^ b = P at *
      go_wp2
      go_ret
      rw [HE.out]
      exact ⟨rfl, rfl⟩

end Go.Proofs.Ythkndfkkgncjfab

namespace Go.Proofs.Ythkndfkkgncjfab
open Go.RowKit
set_option maxRecDepth 100000

/-- the parts' cells -/
def PB (w : World) (x : Nat) (vm vf vl vn : Value) (on : Bool) (lf sp hn : Int) : Prop := w.heap[x]? = some (.cells #[vm, vf, vl, vn, .bool on, .int .i64 lf, .int .i64 sp, .int .i64 hn] 154 (0, 0))
section
variable {w w' : World} {x : Nat} {vm vf vl vn : Value} {on : Bool} {lf sp hn : Int}
theorem PB.lt (h : PB w x vm vf vl vn on lf sp hn) : x < w.heap.size := lt_of_block h
theorem PB.free (h : PB w x vm vf vl vn on lf sp hn) (j : Nat) : w.frozen? ⟨x, j, none⟩ = false := frozen_of_row w x j _ 154 h
theorem PB.same (h : PB w x vm vf vl vn on lf sp hn) (e : w'.heap[x]? = w.heap[x]?) : PB w' x vm vf vl vn on lf sp hn := e.trans h
theorem PB.below (h : PB w x vm vf vl vn on lf sp hn) (hb : Below w.heap.size w w') : PB w' x vm vf vl vn on lf sp hn := (hb.block x h.lt).trans h
theorem PB.c0 (h : PB w x vm vf vl vn on lf sp hn) : w.cell? ⟨x, 0, none⟩ = some (vm) := by rw [cell_of_row w x 0 _ 154 (0, 0) h]; rfl
theorem PB.s0 (h : PB w x vm vf vl vn on lf sp hn) (u : Value) : PB (w.setCell ⟨x, 0, none⟩ u) x u vf vl vn on lf sp hn := (heap_setCell_same w x 0 _ 154 _ h).trans rfl
theorem PB.c1 (h : PB w x vm vf vl vn on lf sp hn) : w.cell? ⟨x, 1, none⟩ = some (vf) := by rw [cell_of_row w x 1 _ 154 (0, 0) h]; rfl
theorem PB.s1 (h : PB w x vm vf vl vn on lf sp hn) (u : Value) : PB (w.setCell ⟨x, 1, none⟩ u) x vm u vl vn on lf sp hn := (heap_setCell_same w x 1 _ 154 _ h).trans rfl
theorem PB.c2 (h : PB w x vm vf vl vn on lf sp hn) : w.cell? ⟨x, 2, none⟩ = some (vl) := by rw [cell_of_row w x 2 _ 154 (0, 0) h]; rfl
theorem PB.s2 (h : PB w x vm vf vl vn on lf sp hn) (u : Value) : PB (w.setCell ⟨x, 2, none⟩ u) x vm vf u vn on lf sp hn := (heap_setCell_same w x 2 _ 154 _ h).trans rfl
theorem PB.c3 (h : PB w x vm vf vl vn on lf sp hn) : w.cell? ⟨x, 3, none⟩ = some (vn) := by rw [cell_of_row w x 3 _ 154 (0, 0) h]; rfl
theorem PB.s3 (h : PB w x vm vf vl vn on lf sp hn) (u : Value) : PB (w.setCell ⟨x, 3, none⟩ u) x vm vf vl u on lf sp hn := (heap_setCell_same w x 3 _ 154 _ h).trans rfl
theorem PB.c4 (h : PB w x vm vf vl vn on lf sp hn) : w.cell? ⟨x, 4, none⟩ = some (.bool on) := by rw [cell_of_row w x 4 _ 154 (0, 0) h]; rfl
theorem PB.s4 (h : PB w x vm vf vl vn on lf sp hn) (u : Bool) : PB (w.setCell ⟨x, 4, none⟩ (.bool u)) x vm vf vl vn u lf sp hn := (heap_setCell_same w x 4 _ 154 _ h).trans rfl
theorem PB.c5 (h : PB w x vm vf vl vn on lf sp hn) : w.cell? ⟨x, 5, none⟩ = some (.int .i64 lf) := by rw [cell_of_row w x 5 _ 154 (0, 0) h]; rfl
theorem PB.s5 (h : PB w x vm vf vl vn on lf sp hn) (u : Int) : PB (w.setCell ⟨x, 5, none⟩ (.int .i64 u)) x vm vf vl vn on u sp hn := (heap_setCell_same w x 5 _ 154 _ h).trans rfl
theorem PB.c6 (h : PB w x vm vf vl vn on lf sp hn) : w.cell? ⟨x, 6, none⟩ = some (.int .i64 sp) := by rw [cell_of_row w x 6 _ 154 (0, 0) h]; rfl
theorem PB.s6 (h : PB w x vm vf vl vn on lf sp hn) (u : Int) : PB (w.setCell ⟨x, 6, none⟩ (.int .i64 u)) x vm vf vl vn on lf u hn := (heap_setCell_same w x 6 _ 154 _ h).trans rfl
theorem PB.c7 (h : PB w x vm vf vl vn on lf sp hn) : w.cell? ⟨x, 7, none⟩ = some (.int .i64 hn) := by rw [cell_of_row w x 7 _ 154 (0, 0) h]; rfl
theorem PB.s7 (h : PB w x vm vf vl vn on lf sp hn) (u : Int) : PB (w.setCell ⟨x, 7, none⟩ (.int .i64 u)) x vm vf vl vn on lf sp u := (heap_setCell_same w x 7 _ 154 _ h).trans rfl
theorem PB.apart (h : PB w x vm vf vl vn on lf sp hn) {B : Nat} {v : Value} {l : List Pa.Pg} (k : OwnS w B v l) : v.ownBlock ≠ some x := by
  intro e
  rcases k.2 with ⟨h2, _⟩ | ⟨g2, cap2, cur2, h2, _, hg2, _⟩
  · rw [h2] at e; simp [Value.ownBlock] at e
  · rw [h2] at e
    simp [Value.ownBlock] at e
    rw [e, h] at hg2
    simp at hg2
theorem PB.keep (h : PB w x vm vf vl vn on lf sp hn) {B : Nat} {v : Value} {l : List Pa.Pg} (k : OwnS w B v l) (j : Nat) (u : Value) : OwnS (w.setCell ⟨x, j, none⟩ u) B v l := ownsRow_setCell_other (a := ⟨x, j, none⟩) k (h.apart k) u
end

/-- two rows of sheets lie apart -/
def apS (u v : Value) : Prop := ∀ k, u.ownBlock = some k → v.ownBlock ≠ some k
theorem apS.nil (v : Value) : apS (.slice none 0 0) v := fun k hk => by simp [Value.ownBlock] at hk
theorem apS.new {w : World} {B C : Nat} {u v : Value} {l : List Pa.Pg} (h : OwnS w C u l) (k : ∀ q, v.ownBlock = some q → q < B) (hB : B ≤ C) : apS u v := fun q h1 h2 => by
  have := h.at_least q h1
  have := k q h2
  omega
/-- the parts in memory -/
structure PIn (B : Nat) (w : World) (x : Nat) (p : Pa.Pt) (vm vf vl vn : Value) : Prop where
  blk : PB w x vm vf vl vn (decide (0 < p.left)) (p.left : Int) (p.speed : Int) (p.hand : Int)
  main : OwnS w B vm p.main
  frozen : OwnS w B vf p.frozen
  live : OwnS w B vl p.live
  next : OwnS w B vn (if p.left = 0 then [] else Pa.next p.main)
  am : apS vl vm
  af : apS vl vf
  an : apS vl vn
  low : B ≤ x

/-- a speed -/
theorem speed_is (b k s : Nat) (h1 : k ≤ s * Pa.half b) (h2 : s = 0 ∨ (s - 1) * Pa.half b < k) : s = Pa.speedOf b k := by
  have hp := Pa.half_pos b
  unfold Pa.speedOf
  generalize Pa.half b = h at *
  rcases h2 with rfl | h2
  · have : k = 0 := by omega
    subst this
    rw [Nat.div_eq_of_lt (by omega)]
  · symm
    rw [Nat.div_eq_iff (by omega)]
    have e : s * h = (s - 1) * h + h := by
      cases s with
      | zero => omega
      | succ s => rw [Nat.succ_mul]; simp
    constructor <;> omega

end Go.Proofs.Ythkndfkkgncjfab

namespace Go.Proofs.Ythkndfkkgncjfab
open Go.RowKit
set_option maxRecDepth 100000

set_option maxHeartbeats 1000000 in
theorem rBegin_no (B : Nat) (w : World) (x b : Nat) (p : Pa.Pt) (vm vf vl vn : Value) (hm : Pa.wt p.main ≤ 10000) (hl : Pa.wt p.live ≤ 10000) (h : PIn B w x p vm vf vl vn) (hn : ¬ (p.left = 0 ∧ Pa.due b p)) :
    Calls Try.prog 108 #[.pointer (some ⟨x, 0, none⟩), .int .i64 (b : Int)] w fun e w' => e = .returned (.tuple #[]) ∧ w' = w := by
  have W1 := rWeight_any vl p.live true true w (h.live.weaken (Nat.zero_le _)) (by omega)
  have W2 := rWeight_any vm p.main true false w (h.main.weaken (Nat.zero_le _)) (by omega)
  have W3 := rWeight_any vm p.main true true w (h.main.weaken (Nat.zero_le _)) (by omega)
  rw [Pa.wsel_all] at W1 W3
  rw [Pa.wsel_dead] at W2
  have hd : Pa.wt (Pa.dead p.main) ≤ Pa.wt p.main := by have := Pa.wt_split p.main; omega
  have c0 := h.blk.c0
  have c2 := h.blk.c2
  have c4 := h.blk.c4
  unfold Pa.due at hn
  have hw : IntKind.i64.wrap (2 * ((Pa.wt (Pa.dead p.main) : Nat) : Int)) = 2 * ((Pa.wt (Pa.dead p.main) : Nat) : Int) := by rw [IntKind.wrap_i64]; omega
  clear h
  generalize Pa.wt p.live = l at *
  generalize Pa.wt (Pa.dead p.main) = d at *
  generalize Pa.wt p.main = m at *
  by_cases h0 : 0 < p.left
  · rw [decide_eq_true h0] at c4
    clear hn h0
    go_enter Try.func108, Try.ntmps108
    go_wp2_with fail
    refine W1.mono ?_
    rintro e w1 ⟨rfl, hw1⟩; rw [hw1]; clear hw1
    go_wp2_with fail
    refine W2.mono ?_
    rintro e w1 ⟨rfl, hw1⟩; rw [hw1]; clear hw1
    go_wp2_with fail
    refine W3.mono ?_
    rintro e w1 ⟨rfl, hw1⟩; rw [hw1]; clear hw1
    go_wp2_with fail
    refine bodyPost_ret (results_none rfl _ _ _) rfl ?_
    exact ⟨rfl, rfl⟩
  · rw [decide_eq_false h0] at c4
    have h1 : l < b := by omega
    have h2 : 2 * d ≤ m := by omega
    have e1 : decide ((l : Int) < (b : Int)) = true := by rw [decide_eq_true_eq]; omega
    have e2 : decide (2 * (d : Int) ≤ (m : Int)) = true := by rw [decide_eq_true_eq]; omega
    clear hn h0
    go_enter Try.func108, Try.ntmps108
    go_wp2_with fail
    refine W1.mono ?_
    rintro e w1 ⟨rfl, hw1⟩; rw [hw1]; clear hw1
    go_wp2_with fail
    refine W2.mono ?_
    rintro e w1 ⟨rfl, hw1⟩; rw [hw1]; clear hw1
    go_wp2_with fail
    refine W3.mono ?_
    rintro e w1 ⟨rfl, hw1⟩; rw [hw1]; clear hw1
    go_wp2_with fail
    refine bodyPost_ret (results_none rfl _ _ _) rfl ?_
    exact ⟨rfl, rfl⟩

/-- how begin leaves the parts -/
theorem begin_end (b : Nat) (p : Pa.Pt) {B x un sp : Nat} {w wr : World} {vm vl vu : Value} (hB : B ≤ w.heap.size) (hx : B ≤ x) (hp : PB wr x vm vl (.slice none 0 0) vu true (un : Int) (sp : Int) (p.hand : Int)) (hm : OwnS wr B vm p.main) (hl : OwnS wr B vl p.live) (hu : OwnS wr w.heap.size vu (Pa.alive p.main)) (hb : Below B w wr) (n : Nat)
    (hun : un = Pa.units (Pa.wt (Pa.alive p.main) + Pa.wt (Pa.alive p.live))) (hsp : sp = Pa.speedOf b un) : Ending.returned (.tuple #[]) = .returned (.tuple #[]) ∧ (∃ vm' vf' vl' vn', PIn B (wr.drewN n) x (Pa.begin' b p) vm' vf' vl' vn') ∧ Below B w (wr.drewN n) := by
  have hpos := Pa.units_pos (Pa.wt (Pa.alive p.main) + Pa.wt (Pa.alive p.live))
  subst hun
  subst hsp
  refine ⟨rfl, ⟨vm, vl, .slice none 0 0, vu, ?_, ?_, hl, OwnS.nil _ _, ?_, apS.nil _, apS.nil _, apS.nil _, hx⟩, below_drewN hb n⟩
  · have e : decide (0 < (Pa.begin' b p).left) = true := by rw [decide_eq_true_eq]; show 0 < Pa.units _; omega
    rw [e]
    exact hp
  · show World.ownsRow _ B 165 3 vm (Pa.mark p.main).length (SH (Pa.mark p.main))
    rw [SH_mark]
    have : (Pa.mark p.main).length = p.main.length := by unfold Pa.mark; rw [List.length_map]
    rw [this]; exact hm
  · have e : ¬ (Pa.begin' b p).left = 0 := by show ¬ Pa.units _ = 0; omega
    rw [if_neg e]
    show World.ownsRow _ B 165 3 vu (Pa.next (Pa.mark p.main)).length (SH (Pa.next (Pa.mark p.main)))
    rw [Pa.mark_next, SH_mark]
    have : (Pa.mark (Pa.alive p.main)).length = (Pa.alive p.main).length := by unfold Pa.mark; rw [List.length_map]
    rw [this]; exact hu.weaken hB

set_option maxHeartbeats 2000000 in
theorem rBegin_yes (B : Nat) (w : World) (x b : Nat) (p : Pa.Pt) (vm vf vl vn : Value) (hb : 1 ≤ b ∧ b ≤ 80) (hm : Pa.wt p.main ≤ 10000) (hl : Pa.wt p.live ≤ 10000) (hB : B ≤ w.heap.size) (h : PIn B w x p vm vf vl vn) (h0 : p.left = 0) (hdu : Pa.due b p) :
    Calls Try.prog 108 #[.pointer (some ⟨x, 0, none⟩), .int .i64 (b : Int)] w fun e w' => e = .returned (.tuple #[]) ∧ (∃ vm' vf' vl' vn', PIn B w' x (Pa.begin' b p) vm' vf' vl' vn') ∧ Below B w w' := by
  obtain ⟨am, cm, rfl, _⟩ := h.main.any
  obtain ⟨al, cl, rfl, _⟩ := h.live.any
  have W1 := rWeight_any _ p.live true true w (h.live.weaken (Nat.zero_le _)) (by omega)
  have W2 := rWeight_any _ p.main true false w (h.main.weaken (Nat.zero_le _)) (by omega)
  have W3 := rWeight_any _ p.main true true w (h.main.weaken (Nat.zero_le _)) (by omega)
  rw [Pa.wsel_all] at W1 W3
  rw [Pa.wsel_dead] at W2
  have hd : Pa.wt (Pa.dead p.main) ≤ Pa.wt p.main := by have := Pa.wt_split p.main; omega
  have c0 := h.blk.c0
  have c1 := h.blk.c1
  have c2 := h.blk.c2
  have c4 := h.blk.c4
  have fr := fun j => h.blk.free j
  rw [decide_eq_false (show ¬ 0 < p.left by omega)] at c4
  have hw : IntKind.i64.wrap (2 * ((Pa.wt (Pa.dead p.main) : Nat) : Int)) = 2 * ((Pa.wt (Pa.dead p.main) : Nat) : Int) := by rw [IntKind.wrap_i64]; omega
  have q0 : PB (w.setCell ⟨x, 4, none⟩ (.bool true)) x (.slice am p.main.length cm) vf (.slice al p.live.length cl) vn true (p.left : Int) (p.speed : Int) (p.hand : Int) := h.blk.s4 true
  have q1 := q0.s1 (.slice al p.live.length cl)
  have q2 := q1.s2 (.slice none 0 0)
  have k3 := q1.keep (q0.keep (h.blk.keep h.main 4 (.bool true)) 1 (.slice al p.live.length cl)) 2 (.slice none 0 0)
  have l3 := q1.keep (q0.keep (h.blk.keep h.live 4 (.bool true)) 1 (.slice al p.live.length cl)) 2 (.slice none 0 0)
  have hml := Pa.wt_len p.main
  have HL := rLeft_any _ p.main (-1) _ (k3.weaken (Nat.zero_le _)) (by omega)
  rw [Pa.stays_alive] at HL
  have hb0 : Below B w (((w.setCell ⟨x, 4, none⟩ (.bool true)).setCell ⟨x, 1, none⟩ (.slice al p.live.length cl)).setCell ⟨x, 2, none⟩ (.slice none 0 0)) := (((Below.refl _ _).setCell (p := ⟨x, 4, none⟩) h.low _).setCell (p := ⟨x, 1, none⟩) h.low _).setCell (p := ⟨x, 2, none⟩) h.low _
  have hcase : (b ≤ Pa.wt p.live ∧ True) ∨ (Pa.wt p.live < b ∧ decide (2 * ((Pa.wt (Pa.dead p.main) : Nat) : Int) ≤ ((Pa.wt p.main : Nat) : Int)) = false) := by
    unfold Pa.due at hdu
    by_cases q : Pa.wt p.live < b
    · exact .inr ⟨q, by rw [decide_eq_false_iff_not]; omega⟩
    · exact .inl ⟨by omega, trivial⟩
  have HK3 : Hid (OwnS (((w.setCell ⟨x, 4, none⟩ (.bool true)).setCell ⟨x, 1, none⟩ (.slice al p.live.length cl)).setCell ⟨x, 2, none⟩ (.slice none 0 0)) B (.slice am p.main.length cm) p.main) := k3
  have HL3 : Hid (OwnS (((w.setCell ⟨x, 4, none⟩ (.bool true)).setCell ⟨x, 1, none⟩ (.slice al p.live.length cl)).setCell ⟨x, 2, none⟩ (.slice none 0 0)) B (.slice al p.live.length cl) p.live) := l3
  have HB0 : Hid (Below B w (((w.setCell ⟨x, 4, none⟩ (.bool true)).setCell ⟨x, 1, none⟩ (.slice al p.live.length cl)).setCell ⟨x, 2, none⟩ (.slice none 0 0))) := hb0
  have HP2 : Hid (PB (((w.setCell ⟨x, 4, none⟩ (.bool true)).setCell ⟨x, 1, none⟩ (.slice al p.live.length cl)).setCell ⟨x, 2, none⟩ (.slice none 0 0)) x (.slice am p.main.length cm) (.slice al p.live.length cl) (.slice none 0 0) vn true (p.left : Int) (p.speed : Int) (p.hand : Int)) := q2
  have HLL : Hid (Calls Try.prog 106 #[.slice am p.main.length cm, .int .i64 (-1)] (((w.setCell ⟨x, 4, none⟩ (.bool true)).setCell ⟨x, 1, none⟩ (.slice al p.live.length cl)).setCell ⟨x, 2, none⟩ (.slice none 0 0)) fun e w' => ∃ u, e = .returned u ∧ OwnS w' (((w.setCell ⟨x, 4, none⟩ (.bool true)).setCell ⟨x, 1, none⟩ (.slice al p.live.length cl)).setCell ⟨x, 2, none⟩ (.slice none 0 0)).heap.size u (Pa.alive p.main) ∧ Below (((w.setCell ⟨x, 4, none⟩ (.bool true)).setCell ⟨x, 1, none⟩ (.slice al p.live.length cl)).setCell ⟨x, 2, none⟩ (.slice none 0 0)).heap.size (((w.setCell ⟨x, 4, none⟩ (.bool true)).setCell ⟨x, 1, none⟩ (.slice al p.live.length cl)).setCell ⟨x, 2, none⟩ (.slice none 0 0)) w') := HL
  have HX : Hid (B ≤ x) := h.low
  have hA : Pa.wt (Pa.alive p.main) ≤ 10000 := by have := Pa.wt_split p.main; omega
  have hA2 : Pa.wt (Pa.alive p.live) ≤ 10000 := by have := Pa.wt_split p.live; omega
  have hsz0 : (((w.setCell ⟨x, 4, none⟩ (.bool true)).setCell ⟨x, 1, none⟩ (.slice al p.live.length cl)).setCell ⟨x, 2, none⟩ (.slice none 0 0)).heap.size = w.heap.size := by simp
  have y0 := q2.c0
  have y2 := q1.c2
  have z1 := q0.c1
  have z2 := q0.c2
  have f1 := q0.free 1
  have f2 := q1.free 2
  have f4 := h.blk.free 4
  clear h hdu k3 l3 hb0 HL q0 q1 q2 fr
  rcases hcase with ⟨g1, g2⟩ | ⟨g1, g2⟩
  all_goals
    go_enter Try.func108, Try.ntmps108
    go_wp2_with fail
    refine W1.mono ?_
    rintro e w1 ⟨rfl, hw1⟩; rw [hw1]; clear hw1
    go_wp2_with fail
    refine W2.mono ?_
    rintro e w1 ⟨rfl, hw1⟩; rw [hw1]; clear hw1
    go_wp2_with fail
    refine W3.mono ?_
    rintro e w1 ⟨rfl, hw1⟩; rw [hw1]; clear hw1
    go_wp2_with fail
    refine HLL.out.mono ?_
    rintro e w1 ⟨u, rfl, hu, hb1⟩
    have s1 := hb1.size
    rw [hsz0] at hu hb1 s1
    generalize (((w.setCell ⟨x, 4, none⟩ (.bool true)).setCell ⟨x, 1, none⟩ (.slice al p.live.length cl)).setCell ⟨x, 2, none⟩ (.slice none 0 0)) = wz at *
    have hb01 : Below wz.heap.size wz w1 := by rw [hsz0]; exact hb1
    have p1 := HP2.out.below hb01
    have m1 := HK3.out.below hb01
    have v1 := HL3.out.below hb01
    have b1 : Below B w w1 := HB0.out.trans (hb1.mono hB)
    obtain ⟨au, cu, rfl, _⟩ := hu.any
    have p2 := p1.s3 (.slice au (Pa.alive p.main).length cu)
    have m2 := p1.keep m1 3 (.slice au (Pa.alive p.main).length cu)
    have v2 := p1.keep v1 3 (.slice au (Pa.alive p.main).length cu)
    have u2 := p1.keep hu 3 (.slice au (Pa.alive p.main).length cu)
    have b2 : Below B w (w1.setCell ⟨x, 3, none⟩ (.slice au (Pa.alive p.main).length cu)) := b1.setCell (p := ⟨x, 3, none⟩) HX.out _
    have s2 : (w1.setCell ⟨x, 3, none⟩ (.slice au (Pa.alive p.main).length cu)).heap.size = w1.heap.size := by simp
    have f3 := p1.free 3
    have y3 := p1.c3
    have t0 := p2.c0
    have t1 := p2.c1
    have V1 := rWeight_any _ p.main false true _ (m2.weaken (Nat.zero_le _)) (by omega)
    have V2 := rWeight_any _ p.live false true _ (v2.weaken (Nat.zero_le _)) (by omega)
    rw [Pa.wsel_alive] at V1 V2
    have HV1 : Hid (Calls Try.prog 91 #[.slice am p.main.length cm, .bool false, .bool true] (w1.setCell ⟨x, 3, none⟩ (.slice au (Pa.alive p.main).length cu)) fun e w' => e = .returned (.int .i64 (Pa.wt (Pa.alive p.main) : Nat)) ∧ w' = w1.setCell ⟨x, 3, none⟩ (.slice au (Pa.alive p.main).length cu)) := V1
    have HV2 : Hid (Calls Try.prog 91 #[(.slice al p.live.length cl), .bool false, .bool true] (w1.setCell ⟨x, 3, none⟩ (.slice au (Pa.alive p.main).length cu)) fun e w' => e = .returned (.int .i64 (Pa.wt (Pa.alive p.live) : Nat)) ∧ w' = w1.setCell ⟨x, 3, none⟩ (.slice au (Pa.alive p.main).length cu)) := V2
    clear p1 m1 v1 hu b1 hb01 hb1 y0 y2 z1 z2 f1 f2 f4 c0 c1 c2 c4 HP2 HK3 HL3 HB0 HLL W1 W2 W3 V1 V2
    have HP2 : Hid (PB (w1.setCell ⟨x, 3, none⟩ (.slice au (Pa.alive p.main).length cu)) x (.slice am p.main.length cm) (.slice al p.live.length cl) (.slice none 0 0) (.slice au (Pa.alive p.main).length cu) true (p.left : Int) (p.speed : Int) (p.hand : Int)) := p2
    have HM2 : Hid (OwnS (w1.setCell ⟨x, 3, none⟩ (.slice au (Pa.alive p.main).length cu)) B (.slice am p.main.length cm) p.main) := m2
    have HL2 : Hid (OwnS (w1.setCell ⟨x, 3, none⟩ (.slice au (Pa.alive p.main).length cu)) B (.slice al p.live.length cl) p.live) := v2
    have HU2 : Hid (OwnS (w1.setCell ⟨x, 3, none⟩ (.slice au (Pa.alive p.main).length cu)) w.heap.size (.slice au (Pa.alive p.main).length cu) (Pa.alive p.main)) := u2
    have HB2 : Hid (Below B w (w1.setCell ⟨x, 3, none⟩ (.slice au (Pa.alive p.main).length cu))) := b2
    clear p2 m2 v2 u2 b2
    go_wp2_with fail
    generalize w1.setCell ⟨x, 3, none⟩ (.slice au (Pa.alive p.main).length cu) = w2 at *
    refine HV1.out.mono ?_
    rintro e w1 ⟨rfl, hw1⟩; rw [hw1]; clear hw1
    go_wp2_with fail
    refine HV2.out.mono ?_
    rintro e w1 ⟨rfl, hw1⟩; rw [hw1]; clear hw1
    generalize hna : Pa.wt (Pa.alive p.main) = na at *
    generalize hnb : Pa.wt (Pa.alive p.live) = nb at *
    have HNA : Hid (Pa.wt (Pa.alive p.main) = na ∧ Pa.wt (Pa.alive p.live) = nb) := ⟨hna, hnb⟩
    clear hna hnb
    have hBits := rBits_any (na + nb) (by omega) w2
    have HBT : Hid (Calls Try.prog 109 #[.int .i64 ((na : Int) + (nb : Int))] w2 fun e w' => e = .returned (.int .i64 (Pa.bits (na + nb) : Nat)) ∧ w' = w2) := by
      show Calls _ _ _ _ _
      have e : ((na + nb : Nat) : Int) = (na : Int) + (nb : Int) := by omega
      rw [← e]; exact hBits
    have hwn : IntKind.i64.wrap ((na : Int) + (nb : Int)) = (na : Int) + (nb : Int) := by rw [IntKind.wrap_i64]; omega
    clear hBits
    go_wp2_with fail
    refine HBT.out.mono ?_
    rintro e w1 ⟨rfl, hw1⟩; rw [hw1]; clear hw1
    have hbl : Pa.bits (na + nb) ≤ 20 := by
      rcases Nat.lt_or_ge (Pa.bits (na + nb)) 21 with q | q
      · omega
      · exfalso
        unfold Pa.bits at q
        split at q
        · omega
        · rename_i hz
          have : Nat.log2 (na + nb) < 20 := (Nat.log2_lt hz).2 (by omega)
          omega
    have HUN : Hid (Pa.units (na + nb) = (na + nb + 1) * (Pa.bits (na + nb) + 3)) := rfl
    generalize Pa.bits (na + nb) = kb at *
    have hprod : (na + nb + 1) * (kb + 3) ≤ 20001 * 23 := Nat.mul_le_mul (by omega) (by omega)
    have hw1 : IntKind.i64.wrap ((na : Int) + (nb : Int) + 1) = (na : Int) + (nb : Int) + 1 := by rw [IntKind.wrap_i64]; omega
    have hw2 : IntKind.i64.wrap ((kb : Int) + 3) = (kb : Int) + 3 := by rw [IntKind.wrap_i64]; omega
    have hpi : ((na : Int) + (nb : Int) + 1) * ((kb : Int) + 3) = (((na + nb + 1) * (kb + 3) : Nat) : Int) := by simp
    have hw3 : IntKind.i64.wrap (((na : Int) + (nb : Int) + 1) * ((kb : Int) + 3)) = (((na + nb + 1) * (kb + 3) : Nat) : Int) := by rw [hpi, IntKind.wrap_i64]; omega
    generalize hun : (na + nb + 1) * (kb + 3) = un at *
    have p5 := HP2.out.s5 (un : Int)
    have p6 := p5.s6 0
    have j5 := HP2.out.c5
    have e5 := HP2.out.free 5
    have j6 := p5.c6
    have e6 := p5.free 6
    have m5 := p5.keep (HP2.out.keep HM2.out 5 (.int .i64 (un : Int))) 6 (.int .i64 0)
    have l5 := p5.keep (HP2.out.keep HL2.out 5 (.int .i64 (un : Int))) 6 (.int .i64 0)
    have u5 := p5.keep (HP2.out.keep HU2.out 5 (.int .i64 (un : Int))) 6 (.int .i64 0)
    have b5 : Below B w ((w2.setCell ⟨x, 5, none⟩ (.int .i64 (un : Int))).setCell ⟨x, 6, none⟩ (.int .i64 0)) := (HB2.out.setCell (p := ⟨x, 5, none⟩) HX.out _).setCell (p := ⟨x, 6, none⟩) HX.out _
    have HM5 : Hid (OwnS ((w2.setCell ⟨x, 5, none⟩ (.int .i64 (un : Int))).setCell ⟨x, 6, none⟩ (.int .i64 0)) B (.slice am p.main.length cm) p.main) := m5
    have HL5 : Hid (OwnS ((w2.setCell ⟨x, 5, none⟩ (.int .i64 (un : Int))).setCell ⟨x, 6, none⟩ (.int .i64 0)) B (.slice al p.live.length cl) p.live) := l5
    have HU5 : Hid (OwnS ((w2.setCell ⟨x, 5, none⟩ (.int .i64 (un : Int))).setCell ⟨x, 6, none⟩ (.int .i64 0)) w.heap.size (.slice au (Pa.alive p.main).length cu) (Pa.alive p.main)) := u5
    have HB5 : Hid (Below B w ((w2.setCell ⟨x, 5, none⟩ (.int .i64 (un : Int))).setCell ⟨x, 6, none⟩ (.int .i64 0))) := b5
    have HP6 : Hid (PB ((w2.setCell ⟨x, 5, none⟩ (.int .i64 (un : Int))).setCell ⟨x, 6, none⟩ (.int .i64 0)) x (.slice am p.main.length cm) (.slice al p.live.length cl) (.slice none 0 0) (.slice au (Pa.alive p.main).length cu) true (un : Int) 0 (p.hand : Int)) := p6
    clear p5 p6 m5 l5 u5 b5 HP2 HM2 HL2 HU2 HB2 HV1 HV2 HBT t0 t1 f3 y3 hpi
    by_cases hb2 : b < 2
    · have hlt : decide ((b : Int) / 2 < 1) = true := by rw [decide_eq_true_eq]; omega
      have HH : Hid (Pa.half b = 1) := by
        show _ = _
        unfold Pa.half; omega
      go_wp2_with fail
      generalize ((w2.setCell ⟨x, 5, none⟩ (.int .i64 (un : Int))).setCell ⟨x, 6, none⟩ (.int .i64 0)) = w5 at *
      go_loopw [] (fun wr => ∃ s : Nat, Hid (s = 0 ∨ (s - 1) * Pa.half b < un) ∧ s ≤ un ∧ PB wr x (.slice am p.main.length cm) (.slice al p.live.length cl) (.slice none 0 0) (.slice au (Pa.alive p.main).length cu) true (un : Int) (s : Int) (p.hand : Int) ∧ OwnS wr B (.slice am p.main.length cm) p.main ∧ OwnS wr B (.slice al p.live.length cl) p.live ∧ OwnS wr w.heap.size (.slice au (Pa.alive p.main).length cu) (Pa.alive p.main) ∧ Below B w wr) (fun wr => un + 1 - (intOf ((wr.cell? ⟨x, 6, none⟩).getD undef)).toNat)
      case atStart => exact ⟨0, .inl rfl, Nat.zero_le _, HP6.out, HM5.out, HL5.out, HU5.out, HB5.out⟩
      case round =>
        obtain ⟨s, HS, hs, hp, hrm, hrl, hru, hbw⟩ := hrel
        have r5 := hp.c5
        have r6 := hp.c6
        have g6 := hp.free 6
        have hhp := Pa.half_pos b
        have hpr : s * Pa.half b = s := by rw [HH.out, Nat.mul_one]
        have hws : IntKind.i64.wrap (s : Int) = (s : Int) := by rw [IntKind.wrap_i64]; omega
        by_cases hc : s * Pa.half b < un
        · have hcond : s < un := by omega
          have hsl : s < un := by
            have : s * 1 ≤ s * Pa.half b := Nat.mul_le_mul_left s hhp
            omega
          have HC : Hid (s * Pa.half b < un) := hc
          have HPP : Hid (PB wr x (.slice am p.main.length cm) (.slice al p.live.length cl) (.slice none 0 0) (.slice au (Pa.alive p.main).length cu) true (un : Int) (s : Int) (p.hand : Int)) := hp
          have HRM : Hid (OwnS wr B (.slice am p.main.length cm) p.main ∧ OwnS wr B (.slice al p.live.length cl) p.live ∧ OwnS wr w.heap.size (.slice au (Pa.alive p.main).length cu) (Pa.alive p.main) ∧ Below B w wr) := ⟨hrm, hrl, hru, hbw⟩
          clear hc HS hp hrm hrl hru hbw
          go_wp2
          go_quiet (fail)
          go_wp2
          obtain ⟨hrm, hrl, hru, hbw⟩ := HRM.out
          have hp : PB (wr.drewN nq) x (.slice am p.main.length cm) (.slice al p.live.length cl) (.slice none 0 0) (.slice au (Pa.alive p.main).length cu) true (un : Int) (s : Int) (p.hand : Int) := HPP.out
          have hn := hp.s6 ((s : Int) + 1)
          have es : ((s + 1 : Nat) : Int) = (s : Int) + 1 := by omega
          refine ⟨⟨s + 1, .inr (by rw [show s + 1 - 1 = s by omega]; exact HC.out), by omega, by rw [es]; exact hn, hp.keep (v := .slice am p.main.length cm) hrm 6 _, hp.keep (v := (.slice al p.live.length cl)) hrl 6 _, hp.keep (v := (.slice au (Pa.alive p.main).length cu)) hru 6 _, (below_drewN hbw nq).setCell (p := ⟨x, 6, none⟩) HX.out _⟩, ?_⟩
          rw [hn.c6, HPP.out.c6]
          simp [intOf]; omega
        · have hcond : un ≤ s := by omega
          have HC : Hid (¬ s * Pa.half b < un) := hc
          have HPP : Hid (PB wr x (.slice am p.main.length cm) (.slice al p.live.length cl) (.slice none 0 0) (.slice au (Pa.alive p.main).length cu) true (un : Int) (s : Int) (p.hand : Int)) := hp
          have HRM : Hid (OwnS wr B (.slice am p.main.length cm) p.main ∧ OwnS wr B (.slice al p.live.length cl) p.live ∧ OwnS wr w.heap.size (.slice au (Pa.alive p.main).length cu) (Pa.alive p.main) ∧ Below B w wr) := ⟨hrm, hrl, hru, hbw⟩
          have HSP : Hid (s = Pa.speedOf b un) := speed_is b un s (by omega) HS
          clear hc HS hp hrm hrl hru hbw
          go_wp2
          go_quiet (fail)
          go_wp2
          go_end0
          exact begin_end b p hB HX.out HPP.out HRM.out.1 HRM.out.2.1 HRM.out.2.2.1 HRM.out.2.2.2 nq (by rw [← HNA.out.1, ← HNA.out.2] at HUN; exact HUN.out.symm ▸ rfl) HSP.out
    · have hlt : decide ((b : Int) / 2 < 1) = false := by rw [decide_eq_false_iff_not]; omega
      have HH : Hid ((b : Int) / 2 = (Pa.half b : Nat)) := by
        show _ = _
        unfold Pa.half; omega
      go_wp2_with fail
      generalize ((w2.setCell ⟨x, 5, none⟩ (.int .i64 (un : Int))).setCell ⟨x, 6, none⟩ (.int .i64 0)) = w5 at *
      go_loopw [] (fun wr => ∃ s : Nat, Hid (s = 0 ∨ (s - 1) * Pa.half b < un) ∧ s ≤ un ∧ PB wr x (.slice am p.main.length cm) (.slice al p.live.length cl) (.slice none 0 0) (.slice au (Pa.alive p.main).length cu) true (un : Int) (s : Int) (p.hand : Int) ∧ OwnS wr B (.slice am p.main.length cm) p.main ∧ OwnS wr B (.slice al p.live.length cl) p.live ∧ OwnS wr w.heap.size (.slice au (Pa.alive p.main).length cu) (Pa.alive p.main) ∧ Below B w wr) (fun wr => un + 1 - (intOf ((wr.cell? ⟨x, 6, none⟩).getD undef)).toNat)
      case atStart => exact ⟨0, .inl rfl, Nat.zero_le _, HP6.out, HM5.out, HL5.out, HU5.out, HB5.out⟩
      case round =>
        obtain ⟨s, HS, hs, hp, hrm, hrl, hru, hbw⟩ := hrel
        have r5 := hp.c5
        have r6 := hp.c6
        have g6 := hp.free 6
        have hhp := Pa.half_pos b
        have hpi : (s : Int) * ((b : Int) / 2) = ((s * Pa.half b : Nat) : Int) := by rw [HH.out]; simp
        have hle := Nat.mul_le_mul hs (show Pa.half b ≤ 40 by unfold Pa.half; omega)
        have hws : IntKind.i64.wrap ((s : Int) * ((b : Int) / 2)) = ((s * Pa.half b : Nat) : Int) := by rw [hpi, IntKind.wrap_i64]; omega
        clear hpi
        by_cases hc : s * Pa.half b < un
        · have hcond := hc
          have hsl : s < un := by
            have : s * 1 ≤ s * Pa.half b := Nat.mul_le_mul_left s hhp
            omega
          have HC : Hid (s * Pa.half b < un) := hc
          have HPP : Hid (PB wr x (.slice am p.main.length cm) (.slice al p.live.length cl) (.slice none 0 0) (.slice au (Pa.alive p.main).length cu) true (un : Int) (s : Int) (p.hand : Int)) := hp
          have HRM : Hid (OwnS wr B (.slice am p.main.length cm) p.main ∧ OwnS wr B (.slice al p.live.length cl) p.live ∧ OwnS wr w.heap.size (.slice au (Pa.alive p.main).length cu) (Pa.alive p.main) ∧ Below B w wr) := ⟨hrm, hrl, hru, hbw⟩
          clear hc HS hp hrm hrl hru hbw
          go_wp2
          go_quiet (fail)
          go_wp2
          obtain ⟨hrm, hrl, hru, hbw⟩ := HRM.out
          have hp : PB (wr.drewN nq) x (.slice am p.main.length cm) (.slice al p.live.length cl) (.slice none 0 0) (.slice au (Pa.alive p.main).length cu) true (un : Int) (s : Int) (p.hand : Int) := HPP.out
          have hn := hp.s6 ((s : Int) + 1)
          have es : ((s + 1 : Nat) : Int) = (s : Int) + 1 := by omega
          refine ⟨⟨s + 1, .inr (by rw [show s + 1 - 1 = s by omega]; exact HC.out), by omega, by rw [es]; exact hn, hp.keep (v := .slice am p.main.length cm) hrm 6 _, hp.keep (v := (.slice al p.live.length cl)) hrl 6 _, hp.keep (v := (.slice au (Pa.alive p.main).length cu)) hru 6 _, (below_drewN hbw nq).setCell (p := ⟨x, 6, none⟩) HX.out _⟩, ?_⟩
          rw [hn.c6, HPP.out.c6]
          simp [intOf]; omega
        · have hcond : un ≤ s * Pa.half b := by omega
          have HC : Hid (¬ s * Pa.half b < un) := hc
          have HPP : Hid (PB wr x (.slice am p.main.length cm) (.slice al p.live.length cl) (.slice none 0 0) (.slice au (Pa.alive p.main).length cu) true (un : Int) (s : Int) (p.hand : Int)) := hp
          have HRM : Hid (OwnS wr B (.slice am p.main.length cm) p.main ∧ OwnS wr B (.slice al p.live.length cl) p.live ∧ OwnS wr w.heap.size (.slice au (Pa.alive p.main).length cu) (Pa.alive p.main) ∧ Below B w wr) := ⟨hrm, hrl, hru, hbw⟩
          have HSP : Hid (s = Pa.speedOf b un) := speed_is b un s (by omega) HS
          clear hc HS hp hrm hrl hru hbw
          go_wp2
          go_quiet (fail)
          go_wp2
          go_end0
          exact begin_end b p hB HX.out HPP.out HRM.out.1 HRM.out.2.1 HRM.out.2.2.1 HRM.out.2.2.2 nq (by rw [← HNA.out.1, ← HNA.out.2] at HUN; exact HUN.out.symm ▸ rfl) HSP.out

end Go.Proofs.Ythkndfkkgncjfab

namespace Go.Proofs.Ythkndfkkgncjfab
open Go.RowKit
set_option maxRecDepth 100000

theorem die_take (id : Nat) (l : List Pa.Pg) (k : Nat) (g : Pa.Pg) (h : l[k]? = some g) : Pa.die id (l.take (k + 1)) = Pa.die id (l.take k) ++ [Pa.die1 id g] := by
  obtain ⟨hk, rfl⟩ := List.getElem?_eq_some_iff.1 h
  unfold Pa.die
  rw [List.take_succ_eq_append_getElem hk, List.map_append]
  rfl
theorem SH1_die (id : Nat) (g : Pa.Pg) : SH1 (Pa.die1 id g) = [.int .i64 (g.id : Int), .int .i64 ((g.doc.size : Int) + 1), .bool (g.dead || g.id == id)] := by
  unfold SH1
  rw [Pa.die1_id, Pa.die1_doc, Pa.die1_dead]

set_option maxHeartbeats 1000000 in
theorem rDied_any (v : Value) (l : List Pa.Pg) (id : Nat) (w : World) (h : OwnS w 0 v l) (hl : l.length ≤ 1000000) :
    Calls Try.prog 107 #[v, .int .i64 (id : Int)] w fun e w' => ∃ u, e = .returned u ∧ OwnS w' w.heap.size u (Pa.die id l) ∧ Below w.heap.size w w' := by
  obtain ⟨i0, hi, hz0, hz1, hz2⟩ := info_parts Try.info165
  obtain ⟨ao, cap, rfl, hcell⟩ := h.any
  have HC : Hid (∀ k d, l[k]? = some d → ∃ g, ao = some ⟨g, 0, none⟩ ∧ ShAt w g k d) := hcell
  clear hcell h
  go_enter Try.func107, Try.ntmps107
  go_wp2
  go_loopw [5, 6] (fun u i wr => ∃ k : Nat, k ≤ l.length ∧ i = .int .i64 k ∧ OwnS wr w.heap.size u (Pa.die id (l.take k)) ∧ Below w.heap.size w wr) (fun _ i _ => l.length - (intOf i).toNat)
  case atStart => exact ⟨0, Nat.zero_le _, rfl, OwnS.nil _ _, Below.refl _ _⟩
  case round =>
    obtain ⟨k, hk, rfl, hu, hb⟩ := hrel
    have hbs := hb.size
    by_cases hlt : k < l.length
    · obtain ⟨g, hg⟩ : ∃ g, l[k]? = some g := ⟨l[k], List.getElem?_eq_getElem hlt⟩
      obtain ⟨gb, rfl, hx⟩ := HC.out k g hg
      obtain ⟨x0, x1, x2⟩ := hx.later hb
      have HD : Hid (Pa.die id (l.take (k + 1)) = Pa.die id (l.take k) ++ [Pa.die1 id g]) := die_take id l k g hg
      obtain ⟨wo, hwo⟩ : ∃ wo, wo = wr := ⟨_, rfl⟩
      subst hwo
      clear hx hg
      have hlen : (Pa.die id (l.take k)).length ≤ 1000000 := by unfold Pa.die; rw [List.length_map, List.length_take]; omega
      obtain ⟨q, hq⟩ : ∃ q, g.dead = q := ⟨_, rfl⟩
      rw [hq] at x2
      have HE0 := SH1_die id g
      rw [hq] at HE0
      clear hq
      cases q
      · by_cases hid : g.id = id
        · have hid1 : ((g.id : Int) == (id : Int)) = true := by rw [beq_iff_eq]; omega
          have HE : Hid (SH1 (Pa.die1 id g) = [.int .i64 (g.id : Int), .int .i64 ((g.doc.size : Int) + 1), .bool true]) := by
            show _ = _
            rw [HE0]; simp [hid]
          clear HE0 hid
          have hbo : Below wo.heap.size wo (wo.alloc (.cells #[.int .i64 (g.id : Int), .int .i64 ((g.doc.size : Int) + 1), .bool true] 165)) := (Below.refl _ _).alloc (Nat.le_refl _) _
          have hnews := World.news_of_block (heap_alloc_new (wo.alloc (.cells #[.int .i64 (g.id : Int), .int .i64 ((g.doc.size : Int) + 1), .bool true] 165)) (.cells #[.int .i64 (g.id : Int), .int .i64 ((g.doc.size : Int) + 1), .bool true] 165))
          rw [show (wo.alloc (.cells #[.int .i64 (g.id : Int), .int .i64 ((g.doc.size : Int) + 1), .bool true] 165)).heap.size = wo.heap.size + 1 by simp] at hnews
          have huw : OwnS (wo.alloc (.cells #[.int .i64 (g.id : Int), .int .i64 ((g.doc.size : Int) + 1), .bool true] 165)) w.heap.size u5 (Pa.die id (l.take k)) := hu.below hbo
          have hbb : Below w.heap.size w (wo.alloc (.cells #[.int .i64 (g.id : Int), .int .i64 ((g.doc.size : Int) + 1), .bool true] 165)) := hb.trans (hbo.mono hbs)
          have hsz := hbb.size
          clear hbo hu hb
          go_wp2_with (at_builtin; refine wpList_append_own _ rfl _ _ 152 rfl w.heap.size 165 i0 (.agg #[.int .i64 0, .int .i64 0, .bool false]) 3 24 Try.underlying152 hi hz0 hz1 hz2 rfl (by decide) _ _ _ rfl (World.ownsRow.alloc huw _) ⟨wo.heap.size + 1, 0, none⟩ 1 1 [.int .i64 (g.id : Int), .int .i64 ((g.doc.size : Int) + 1), .bool true] rfl rfl hnews (by intro u hu2; simp at hu2; rcases hu2 with rfl | rfl | rfl <;> rfl) (by unfold maxLen; omega) (by omega) (by simp; omega) ?_; intro v' w3 hown3 hgrow3 _)
          have R := OwnS.more (c := Pa.die1 id g) huw hbb hsz (by rw [HE.out]; exact hown3) hgrow3
          clear hown3 hgrow3 huw hbb
          go_wp2
          exact ⟨⟨k + 1, by omega, by go_num, by rw [HD.out]; exact R.1, R.2⟩, by simp [intOf]; omega⟩
        · have hid1 : ((g.id : Int) == (id : Int)) = false := by rw [beq_eq_false_iff_ne]; omega
          have HE : Hid (SH1 (Pa.die1 id g) = [.int .i64 (g.id : Int), .int .i64 ((g.doc.size : Int) + 1), .bool false]) := by
            show _ = _
            rw [HE0]; simp [hid]
          clear HE0 hid
          have hbo : Below wo.heap.size wo (wo.alloc (.cells #[.int .i64 (g.id : Int), .int .i64 ((g.doc.size : Int) + 1), .bool false] 165)) := (Below.refl _ _).alloc (Nat.le_refl _) _
          have hnews := World.news_of_block (heap_alloc_new (wo.alloc (.cells #[.int .i64 (g.id : Int), .int .i64 ((g.doc.size : Int) + 1), .bool false] 165)) (.cells #[.int .i64 (g.id : Int), .int .i64 ((g.doc.size : Int) + 1), .bool false] 165))
          rw [show (wo.alloc (.cells #[.int .i64 (g.id : Int), .int .i64 ((g.doc.size : Int) + 1), .bool false] 165)).heap.size = wo.heap.size + 1 by simp] at hnews
          have huw : OwnS (wo.alloc (.cells #[.int .i64 (g.id : Int), .int .i64 ((g.doc.size : Int) + 1), .bool false] 165)) w.heap.size u5 (Pa.die id (l.take k)) := hu.below hbo
          have hbb : Below w.heap.size w (wo.alloc (.cells #[.int .i64 (g.id : Int), .int .i64 ((g.doc.size : Int) + 1), .bool false] 165)) := hb.trans (hbo.mono hbs)
          have hsz := hbb.size
          clear hbo hu hb
          go_wp2_with (at_builtin; refine wpList_append_own _ rfl _ _ 152 rfl w.heap.size 165 i0 (.agg #[.int .i64 0, .int .i64 0, .bool false]) 3 24 Try.underlying152 hi hz0 hz1 hz2 rfl (by decide) _ _ _ rfl (World.ownsRow.alloc huw _) ⟨wo.heap.size + 1, 0, none⟩ 1 1 [.int .i64 (g.id : Int), .int .i64 ((g.doc.size : Int) + 1), .bool false] rfl rfl hnews (by intro u hu2; simp at hu2; rcases hu2 with rfl | rfl | rfl <;> rfl) (by unfold maxLen; omega) (by omega) (by simp; omega) ?_; intro v' w3 hown3 hgrow3 _)
          have R := OwnS.more (c := Pa.die1 id g) huw hbb hsz (by rw [HE.out]; exact hown3) hgrow3
          clear hown3 hgrow3 huw hbb
          go_wp2
          exact ⟨⟨k + 1, by omega, by go_num, by rw [HD.out]; exact R.1, R.2⟩, by simp [intOf]; omega⟩
      · have HE : Hid (SH1 (Pa.die1 id g) = [.int .i64 (g.id : Int), .int .i64 ((g.doc.size : Int) + 1), .bool true]) := by
          show _ = _
          rw [HE0]; simp
        clear HE0
        have hbo : Below wo.heap.size wo (wo.alloc (.cells #[.int .i64 (g.id : Int), .int .i64 ((g.doc.size : Int) + 1), .bool true] 165)) := (Below.refl _ _).alloc (Nat.le_refl _) _
        have hnews := World.news_of_block (heap_alloc_new (wo.alloc (.cells #[.int .i64 (g.id : Int), .int .i64 ((g.doc.size : Int) + 1), .bool true] 165)) (.cells #[.int .i64 (g.id : Int), .int .i64 ((g.doc.size : Int) + 1), .bool true] 165))
        rw [show (wo.alloc (.cells #[.int .i64 (g.id : Int), .int .i64 ((g.doc.size : Int) + 1), .bool true] 165)).heap.size = wo.heap.size + 1 by simp] at hnews
        have huw : OwnS (wo.alloc (.cells #[.int .i64 (g.id : Int), .int .i64 ((g.doc.size : Int) + 1), .bool true] 165)) w.heap.size u5 (Pa.die id (l.take k)) := hu.below hbo
        have hbb : Below w.heap.size w (wo.alloc (.cells #[.int .i64 (g.id : Int), .int .i64 ((g.doc.size : Int) + 1), .bool true] 165)) := hb.trans (hbo.mono hbs)
        have hsz := hbb.size
        clear hbo hu hb
        go_wp2_with (at_builtin; refine wpList_append_own _ rfl _ _ 152 rfl w.heap.size 165 i0 (.agg #[.int .i64 0, .int .i64 0, .bool false]) 3 24 Try.underlying152 hi hz0 hz1 hz2 rfl (by decide) _ _ _ rfl (World.ownsRow.alloc huw _) ⟨wo.heap.size + 1, 0, none⟩ 1 1 [.int .i64 (g.id : Int), .int .i64 ((g.doc.size : Int) + 1), .bool true] rfl rfl hnews (by intro u hu2; simp at hu2; rcases hu2 with rfl | rfl | rfl <;> rfl) (by unfold maxLen; omega) (by omega) (by simp; omega) ?_; intro v' w3 hown3 hgrow3 _)
        have R := OwnS.more (c := Pa.die1 id g) huw hbb hsz (by rw [HE.out]; exact hown3) hgrow3
        clear hown3 hgrow3 huw hbb
        go_wp2
        exact ⟨⟨k + 1, by omega, by go_num, by rw [HD.out]; exact R.1, R.2⟩, by simp [intOf]; omega⟩
    · have hke : k = l.length := by omega
      subst hke
      rw [List.take_of_length_le (Nat.le_refl _)] at hu
      go_wp2
      go_ret
      exact ⟨_, rfl, hu, hb⟩

end Go.Proofs.Ythkndfkkgncjfab

namespace Go.Proofs.Ythkndfkkgncjfab
open Go.RowKit
set_option maxRecDepth 100000

/-- a row is appended to a row -/
theorem wpList_append_row {P : Program} {w : World} {ops : Array Oper} {rest : List Oper} {o : Oper} {a : Act} {Q : Exit → Act → World → Prop} (hgd : o.guard = none) (s x : Operand) (t : TypeId)
    (ho : o.op = .call { callee := .builtin .append, args := #[s, x], argTypes := #[t, t] })
    (base : Nat) (e : TypeId) (i : TypeInfo) (z : Value) (size bytes : Nat) (ht : P.underlying t = some (.slice e)) (hi : P.info? e = some i) (hz : i.zero = some z)
    (hsize : i.size = size) (hby : i.bytes = bytes) (hzs : z.cells.size = size) (hsz : 0 < size)
    (v : Value) (n : Nat) (xs : List Value) (hs : a.eval s = v) (hown : w.ownsRow base e size v n xs)
    (u : Value) (m : Nat) (news : List Value) (hx : a.eval x = u) (hu : w.ownsRow 0 e size u m news) (h1 : ∀ q ∈ news, q.oneCell' = true)
    (h63 : n + m ≤ maxLen) (hbytes : (n + m) * bytes ≤ 140737488355328) (hbase : base ≤ w.heap.size)
    (h : ∀ v' w', w'.ownsRow base e size v' (n + m) (xs ++ news) → w.grownBy w' v.ownBlock → wpList P ops Q rest (a.put o.dst v') w') : wpList P ops Q (o :: rest) a w := by
  rcases hu.2 with ⟨hn, hm0⟩ | ⟨g, cap, cur, hv, _, hg, _⟩
  · subst hm0
    have hnews : news = [] := by
      have := hu.1
      rw [Nat.zero_mul] at this
      exact List.eq_nil_of_length_eq_zero this
    subst hnews
    have hsh : ∃ b0 c0, v = .slice b0 n c0 ∧ n ≤ c0 := by
      rcases hown.2 with ⟨h2, h3⟩ | ⟨g2, cap2, cur2, h2, _, _, h4, _⟩
      · exact ⟨none, 0, by rw [h2, h3], by omega⟩
      · exact ⟨_, cap2, h2, h4⟩
    obtain ⟨b0, c0, rfl, hle⟩ := hsh
    have hr := run_append_nothing (P := P) w t t o.type e i ht hi b0 n c0 hle u (by rw [hn]; exact Src.ofNil _ ht 0)
    refine wpList_plain hgd fun K hK => ?_
    unfold Oper.wp execOp
    simp only [ho, resolve, invoke, builtin, Sem.run_bind, Sem.run_pure, Result.andThen_ok, List.map_toArray, List.map_cons, List.map_nil, hs, hx, hr]
    refine hK _ _ (h _ w (by simpa using hown) (World.grownBy.refl _ _))
  · have hnews : ∀ j q, news[j]? = some q → w.cell? ((⟨g, 0, none⟩ : Addr).add j) = some q := by
      intro j q hq
      have hj : j < news.length := (List.getElem?_eq_some_iff.1 hq).1
      subst hv
      have := World.ownsRow.cellAt hu j (by have := hu.1; omega)
      rw [hq] at this
      have e : (⟨g, 0, none⟩ : Addr).add j = ⟨g, j, none⟩ := by simp [Addr.add]; exact fun e => e.symm
      rw [e]; exact this
    exact wpList_append_own w hgd s x t ho base e i z size bytes ht hi hz hsize hby hzs hsz v n xs hs hown ⟨g, 0, none⟩ m cap news (by rw [hx, hv]) hu.1 hnews h1 h63 hbytes hbase fun v' w' h2 h3 _ => h v' w' h2 h3

/-- one sheet more in LIVE -/
theorem PIn.more {B : Nat} {w w3 : World} {x g' cap' : Nat} {p : Pa.Pt} {vm vf vl vn : Value} {pg : Pa.Pg} (h : PIn B w x p vm vf vl vn) (hown : w3.ownsRow B 165 3 (.slice (some ⟨g', 0, none⟩) (p.live.length + 1) cap') (p.live.length + 1) (SH p.live ++ SH1 pg)) (hgr : Only (fun k => vl.ownBlock = some k) w w3) (hat : vl.ownBlock = some g' ∨ w.heap.size ≤ g') :
    PIn B (w3.setCell ⟨x, 2, none⟩ (.slice (some ⟨g', 0, none⟩) (p.live.length + 1) cap')) x { p with live := p.live ++ [pg] } vm vf (.slice (some ⟨g', 0, none⟩) (p.live.length + 1) cap') vn ∧ Below B w (w3.setCell ⟨x, 2, none⟩ (.slice (some ⟨g', 0, none⟩) (p.live.length + 1) cap')) ∧ PB w3 x vm vf vl vn (decide (0 < p.left)) (p.left : Int) (p.speed : Int) (p.hand : Int) := by
  have hnx := h.blk.apart h.live
  have hb : PB w3 x vm vf vl vn (decide (0 < p.left)) (p.left : Int) (p.speed : Int) (p.hand : Int) := (hgr.block x h.blk.lt hnx).trans h.blk
  have hlv : OwnS w3 B (.slice (some ⟨g', 0, none⟩) (p.live.length + 1) cap') (p.live ++ [pg]) := by
    unfold OwnS
    rw [SH_append, List.length_append]
    have : SH [pg] = SH1 pg := by simp [SH]
    rw [this]; exact hown
  have far : ∀ {v : Value} {l : List Pa.Pg}, OwnS w B v l → apS vl v → OwnS w3 B v l := fun hv ha => hv.only hgr fun q hq hk => ha q hk hq
  have ap' : ∀ {v : Value} {l : List Pa.Pg}, OwnS w B v l → apS vl v → apS (.slice (some ⟨g', 0, none⟩) (p.live.length + 1) cap') v := fun hv ha q h1 h2 => by
    simp only [Value.ownBlock, Option.some.injEq] at h1
    subst h1
    rcases hat with h3 | h3
    · exact ha _ h3 h2
    · have := hv.lt _ h2; omega
  have hlow : Below B w w3 := ⟨hgr.os, hgr.tape, hgr.output, hgr.size, fun k hk => hgr.block k (by have := h.low; have := h.blk.lt; omega) (fun e => by have := h.live.at_least k e; omega)⟩
  refine ⟨⟨hb.s2 _, hb.keep (far h.main h.am) 2 _, hb.keep (far h.frozen h.af) 2 _, hb.keep hlv 2 _, hb.keep (far h.next h.an) 2 _, ap' h.main h.am, ap' h.frozen h.af, ap' h.next h.an, h.low⟩, hlow.setCell (p := ⟨x, 2, none⟩) h.low _, hb⟩

/-- what the handover writes -/
theorem PB.hand_over {w : World} {x : Nat} {vm vf vl vn : Value} {on : Bool} {lf sp hn : Int} (h : PB w x vm vf vl vn on lf sp hn) (v : Value) :
    (w.cell? ⟨x, 0, none⟩ = some vm ∧ w.frozen? ⟨x, 0, none⟩ = false) ∧ ((w.setCell ⟨x, 0, none⟩ v).cell? ⟨x, 3, none⟩ = some vn ∧ (w.setCell ⟨x, 0, none⟩ v).frozen? ⟨x, 3, none⟩ = false) ∧ (((w.setCell ⟨x, 0, none⟩ v).setCell ⟨x, 3, none⟩ (.slice none 0 0)).cell? ⟨x, 1, none⟩ = some vf ∧ ((w.setCell ⟨x, 0, none⟩ v).setCell ⟨x, 3, none⟩ (.slice none 0 0)).frozen? ⟨x, 1, none⟩ = false) ∧ ((((w.setCell ⟨x, 0, none⟩ v).setCell ⟨x, 3, none⟩ (.slice none 0 0)).setCell ⟨x, 1, none⟩ (.slice none 0 0)).cell? ⟨x, 4, none⟩ = some (.bool on) ∧ (((w.setCell ⟨x, 0, none⟩ v).setCell ⟨x, 3, none⟩ (.slice none 0 0)).setCell ⟨x, 1, none⟩ (.slice none 0 0)).frozen? ⟨x, 4, none⟩ = false) ∧ (((((w.setCell ⟨x, 0, none⟩ v).setCell ⟨x, 3, none⟩ (.slice none 0 0)).setCell ⟨x, 1, none⟩ (.slice none 0 0)).setCell ⟨x, 4, none⟩ (.bool false)).cell? ⟨x, 5, none⟩ = some (.int .i64 lf) ∧ ((((w.setCell ⟨x, 0, none⟩ v).setCell ⟨x, 3, none⟩ (.slice none 0 0)).setCell ⟨x, 1, none⟩ (.slice none 0 0)).setCell ⟨x, 4, none⟩ (.bool false)).frozen? ⟨x, 5, none⟩ = false) ∧ ((((((w.setCell ⟨x, 0, none⟩ v).setCell ⟨x, 3, none⟩ (.slice none 0 0)).setCell ⟨x, 1, none⟩ (.slice none 0 0)).setCell ⟨x, 4, none⟩ (.bool false)).setCell ⟨x, 5, none⟩ (.int .i64 0)).cell? ⟨x, 7, none⟩ = some (.int .i64 hn) ∧ (((((w.setCell ⟨x, 0, none⟩ v).setCell ⟨x, 3, none⟩ (.slice none 0 0)).setCell ⟨x, 1, none⟩ (.slice none 0 0)).setCell ⟨x, 4, none⟩ (.bool false)).setCell ⟨x, 5, none⟩ (.int .i64 0)).frozen? ⟨x, 7, none⟩ = false) ∧
    PB ((((((w.setCell ⟨x, 0, none⟩ v).setCell ⟨x, 3, none⟩ (.slice none 0 0)).setCell ⟨x, 1, none⟩ (.slice none 0 0)).setCell ⟨x, 4, none⟩ (.bool false)).setCell ⟨x, 5, none⟩ (.int .i64 0)).setCell ⟨x, 7, none⟩ (.int .i64 (hn + 1))) x v (.slice none 0 0) vl (.slice none 0 0) false 0 sp (hn + 1) ∧ (∀ (B : Nat) (u : Value) (l : List Pa.Pg), OwnS w B u l → OwnS ((((((w.setCell ⟨x, 0, none⟩ v).setCell ⟨x, 3, none⟩ (.slice none 0 0)).setCell ⟨x, 1, none⟩ (.slice none 0 0)).setCell ⟨x, 4, none⟩ (.bool false)).setCell ⟨x, 5, none⟩ (.int .i64 0)).setCell ⟨x, 7, none⟩ (.int .i64 (hn + 1))) B u l) := by
  have q1 := h.s0 v
  have q2 := q1.s3 (.slice none 0 0)
  have q3 := q2.s1 (.slice none 0 0)
  have q4 := q3.s4 false
  have q5 := q4.s5 0
  exact ⟨⟨h.c0, h.free 0⟩, ⟨q1.c3, q1.free 3⟩, ⟨q2.c1, q2.free 1⟩, ⟨q3.c4, q3.free 4⟩, ⟨q4.c5, q4.free 5⟩, ⟨q5.c7, q5.free 7⟩, q5.s7 _, fun B u l hu => q5.keep (q4.keep (q3.keep (q2.keep (q1.keep (h.keep hu 0 _) 3 _) 1 _) 4 _) 5 _) 7 _⟩

end Go.Proofs.Ythkndfkkgncjfab

namespace Go.Proofs.Ythkndfkkgncjfab
open Go.RowKit
set_option maxRecDepth 100000

theorem rBegin_any (B : Nat) (w : World) (x b : Nat) (p : Pa.Pt) (vm vf vl vn : Value) (hb : 1 ≤ b ∧ b ≤ 80) (hm : Pa.wt p.main ≤ 10000) (hl : Pa.wt p.live ≤ 10000) (hB : B ≤ w.heap.size) (h : PIn B w x p vm vf vl vn) :
    Calls Try.prog 108 #[.pointer (some ⟨x, 0, none⟩), .int .i64 (b : Int)] w fun e w' => e = .returned (.tuple #[]) ∧ (∃ vm' vf' vl' vn', PIn B w' x (Pa.begun b p) vm' vf' vl' vn') ∧ Below B w w' := by
  by_cases hd : p.left = 0 ∧ Pa.due b p
  · have e : Pa.begun b p = Pa.begin' b p := by unfold Pa.begun; rw [if_pos hd]
    rw [e]
    exact rBegin_yes B w x b p vm vf vl vn hb hm hl hB h hd.1 hd.2
  · have e : Pa.begun b p = p := by unfold Pa.begun; rw [if_neg hd]
    rw [e]
    refine (rBegin_no B w x b p vm vf vl vn hm hl h hd).mono ?_
    rintro e w' ⟨he, rfl⟩
    exact ⟨he, ⟨vm, vf, vl, vn, h⟩, Below.refl _ _⟩

/-- small numbers -/
structure Small (q : Pa.Pt) : Prop where
  mf : Pa.wt q.main + Pa.wt q.frozen ≤ 10000
  live : Pa.wt q.live ≤ 10000
  left : q.left ≤ 100000
  speed : q.speed ≤ 100000
  hand : q.hand ≤ 9000000000000000
theorem PIn.below {B : Nat} {w w' : World} {x : Nat} {p : Pa.Pt} {vm vf vl vn : Value} (h : PIn B w x p vm vf vl vn) (hb : Below w.heap.size w w') : PIn B w' x p vm vf vl vn :=
  ⟨h.blk.below hb, h.main.below hb, h.frozen.below hb, h.live.below hb, h.next.below hb, h.am, h.af, h.an, h.low⟩
theorem grown_onlyS {w w3 : World} {o : Obj} {v : Value} (h : (w.alloc o).drew.grownBy w3 v.ownBlock) : Only (fun k => v.ownBlock = some k) w w3 :=
  (Only.of_below ((Below.refl _ _).alloc (Nat.le_refl _) o).drew).trans (Only.grown h (fun _ hk => hk))

set_option maxHeartbeats 4000000 in
theorem rChange_ins (B : Nat) (w : World) (x b : Nat) (p : Pa.Pt) (c : Do.Chg) (vm vf vl vn : Value) (hins : c.ins = true) (hcd : c.doc.size ≤ 40) (hcl : p.live.length ≤ 10000) (hb : 1 ≤ b ∧ b ≤ 80) (hk : Small (Pa.came p c)) (hB : B ≤ w.heap.size) (h : PIn B w x p vm vf vl vn) :
    Calls Try.prog 102 #[.pointer (some ⟨x, 0, none⟩), .agg #[.bool c.ins, .string c.doc, .int .i64 (c.id : Int)], .int .i64 (b : Int)] w fun e w' => e = .returned (.tuple #[]) ∧ (∃ vm' vf' vl' vn', PIn B w' x (Pa.change b p c) vm' vf' vl' vn') ∧ Below B w w' := by
  obtain ⟨i0, hi, hz0, hz1, hz2⟩ := info_parts Try.info165
  obtain ⟨al, cl, rfl, _⟩ := h.live.any
  have hxl := h.blk.lt
  have hvl := h.live.lt
  rw [hins]
  have hb0 : Below w.heap.size w (w.alloc (.cells #[.bool true, .string c.doc, .int .i64 (c.id : Int)] 149)) := (Below.refl _ _).alloc (Nat.le_refl _) _
  have hs0 : (w.alloc (.cells #[.bool true, .string c.doc, .int .i64 (c.id : Int)] 149)).heap.size = w.heap.size + 1 := by simp
  have yn := World.news_of_block (heap_alloc_new w (.cells #[.bool true, .string c.doc, .int .i64 (c.id : Int)] 149))
  have n2 : (w.alloc (.cells #[.bool true, .string c.doc, .int .i64 (c.id : Int)] 149)).cell? ⟨w.heap.size, 2, none⟩ = some (.int .i64 (c.id : Int)) := yn 2 _ rfl
  have h1 := h.below hb0
  clear yn
  have HCA : Hid (Pa.came p c = { p with live := p.live ++ [⟨c.id, c.doc, false, false⟩] }) := by show _ = _; unfold Pa.came; rw [if_pos hins]
  clear h
  go_enter Try.func102, Try.ntmps102
  go_wp2_with fail
  generalize w.alloc (.cells #[.bool true, .string c.doc, .int .i64 (c.id : Int)] 149) = w1 at *
  have H1 : Hid (PIn B w1 x p vm vf (.slice al p.live.length cl) vn) := h1
  have c2 := h1.blk.c2
  have hlv := h1.live
  have hba : ∀ o, Below w1.heap.size w1 (w1.alloc o).drew := fun o => ((Below.refl _ _).alloc (Nat.le_refl _) o).drew
  have hS1 : ∀ o, (w1.alloc o).drew.cell? ⟨w.heap.size, 2, none⟩ = some (.int .i64 (c.id : Int)) := fun o => cell_later (hba o) n2
  have c21 : ∀ o, (w1.alloc o).drew.cell? ⟨x, 2, none⟩ = some (.slice al p.live.length cl) := fun o => cell_later (hba o) c2
  have hnx : (w.heap.size : Nat) ≠ x := by omega
  have HW : Hid (Below w.heap.size w w1) := hb0
  clear h1 hb0
  refine wp_region_held_drew (S := fun w' => w'.cell? ⟨w.heap.size, 2, none⟩ = some (.int .i64 (c.id : Int))) (by kernel_rfl) n2 (fun hHeld => ?_)
  refine wpAnyH_take (i := 0) (v := ?a0) rfl (by kernel_rfl) (by kernel_rfl) (by kernel_rfl) (fun _ _ _ h => h) (Or.inl ⟨by rfl, ?hya0⟩) (by assumption) ?resta0
  case hya0 => intro w hSw; (try dsimp only at hSw); go_simp; (try with_reducible rfl)
  simp only [Act.put]
  refine wpAnyH_take (i := 1) (v := ?a1) rfl (by kernel_rfl) (by kernel_rfl) (by kernel_rfl) (fun _ _ _ h => h) (Or.inl ⟨by rfl, ?hya1⟩) (by assumption) ?resta1
  case hya1 => intro w hSw; (try dsimp only at hSw); go_simp; (try with_reducible rfl)
  simp only [Act.put]
  refine wpAnyH_take (i := 2) (v := ?a2) rfl (by kernel_rfl) (by kernel_rfl) (by kernel_rfl) (fun _ _ _ h => h) (Or.inl ⟨by rfl, ?hya2⟩) (by assumption) ?resta2
  case hya2 => intro w hSw; (try dsimp only at hSw); go_simp; (try with_reducible rfl)
  simp only [Act.put]
  refine wpAnyH_take (i := 3) (v := ?a3) rfl (by kernel_rfl) (by kernel_rfl) (by kernel_rfl) (fun _ _ _ h => h) (Or.inl ⟨by rfl, ?hya3⟩) (by assumption) ?resta3
  case hya3 => intro w hSw; (try dsimp only at hSw); go_simp; (try with_reducible rfl)
  simp only [Act.put]
  refine wpAnyH_take (i := 5) (v := ?a5) rfl (by kernel_rfl) (by kernel_rfl) (by kernel_rfl) (fun _ _ _ h => h) (Or.inl ⟨by rfl, ?hya5⟩) (by assumption) ?resta5
  case hya5 => intro w hSw; (try dsimp only at hSw); go_simp; (try with_reducible rfl)
  simp only [Act.put]
  refine wpAnyH_take (i := 6) (v := ?a6) rfl (by kernel_rfl) (by kernel_rfl) (by kernel_rfl) (fun _ _ _ h => h) (Or.inl ⟨by rfl, ?hya6⟩) (by assumption) ?resta6
  case hya6 => intro w hSw; (try dsimp only at hSw); go_simp; (try with_reducible rfl)
  simp only [Act.put]
  refine wpAnyH_take (i := 7) (v := ?a7) rfl (by kernel_rfl) (by kernel_rfl) (by kernel_rfl) (fun _ _ _ h => h) (Or.inl ⟨by rfl, ?hya7⟩) (by assumption) ?resta7
  case hya7 => intro w hSw; (try dsimp only at hSw); go_simp; (try with_reducible rfl)
  simp only [Act.put]
  refine wpAnyH_take (i := 8) (v := ?a8) rfl (by kernel_rfl) (by kernel_rfl) (by kernel_rfl) (fun _ _ _ h => h) (Or.inl ⟨by rfl, ?hya8⟩) (by assumption) ?resta8
  case hya8 => intro w hSw; (try dsimp only at hSw); go_simp; (try with_reducible rfl)
  simp only [Act.put]
  refine wpAnyH_ready (rs := [4, 9]) (by kernel_rfl) (by simp) ?_
  refine AllReadyH.cons rfl (fun K hK => ?A) (AllReadyH.cons rfl (fun K hK => ?B) AllReadyH.nil)
  case' A =>
    go_simp
    refine hK.out _ _ (by exact hHeld) (fun hHeld => ?_)
    clear hK K
    refine wpAnyH_ready (rs := [9]) (by kernel_rfl) (by simp) ?_
    refine AllReadyH.cons rfl (fun K hK => ?_) AllReadyH.nil
    go_simp
    refine hK.out _ _ (hS1 _) (fun hHeld => ?_)
    clear hK K
  case' B =>
    go_simp
    refine hK.out _ _ (hS1 _) (fun hHeld => ?_)
    clear hK K
    refine wpAnyH_ready (rs := [4]) (by kernel_rfl) (by simp) ?_
    refine AllReadyH.cons rfl (fun K hK => ?_) AllReadyH.nil
    have g13 := c21 (.cells #[.int .i64 (c.id : Int), .int .i64 ((c.doc.size : Int) + 1), .bool false] 165)
    go_simp
    refine hK.out _ _ (by exact hHeld) (fun hHeld => ?_)
    clear hK K g13
  · skip
    refine wpAnyH_ready (rs := [10]) (by kernel_rfl) (by simp) ?_
    refine AllReadyH.cons rfl (fun K hK => ?_) AllReadyH.nil
    refine step_lies_at 24 rfl (w1.heap.size + 1) rfl (.tmp 18) (.tmp 23) 152 rfl B 165 i0 (.agg #[.int .i64 0, .int .i64 0, .bool false]) 3 24 Try.underlying152 hi hz0 hz1 hz2 rfl (by decide) (.slice al p.live.length cl) p.live.length (SH p.live) (by simp [Act.eval]) (World.ownsRow.alloc hlv _) ⟨w1.heap.size, 0, none⟩ 1 1 (SH1 ⟨c.id, c.doc, false, false⟩) (by simp [Act.eval]) rfl (World.news_of_block (cs := #[.int .i64 (c.id : Int), .int .i64 ((c.doc.size : Int) + 1), .bool false]) (heap_alloc_new w1 _)) (by intro u hu2; simp [SH1] at hu2; rcases hu2 with rfl | rfl | rfl <;> rfl) (by decide) (by unfold maxLen; omega) (by omega) (by simp; omega) (by simp) ?_
    intro g' cap' w3 hown3 hgrow0 hat3 hlt3
    obtain ⟨R1, R2, R3⟩ := H1.out.more (pg := ⟨c.id, c.doc, false, false⟩) hown3 (grown_onlyS hgrow0) (hat3.imp (fun h => h) (fun h => by omega))
    have HP : Hid (PIn B (w3.setCell ⟨x, 2, none⟩ (.slice (some ⟨g', 0, none⟩) (p.live.length + 1) cap')) x (Pa.came p c) vm vf (.slice (some ⟨g', 0, none⟩) (p.live.length + 1) cap') vn) := by
      show PIn _ _ _ _ _ _ _ _
      rw [HCA.out]; exact R1
    have HO : Hid (Below B w1 (w3.setCell ⟨x, 2, none⟩ (.slice (some ⟨g', 0, none⟩) (p.live.length + 1) cap'))) := R2
    have c33 := R3.c2
    have f33 := R3.free 2
    have hnc : some w.heap.size ≠ (Value.slice al p.live.length cl).ownBlock := fun e => by have := hvl _ e.symm; omega
    have m2 : w3.cell? ⟨w.heap.size, 2, none⟩ = some (.int .i64 (c.id : Int)) := World.grownBy.cell hgrow0 (hS1 _) hnc
    clear R1 R2 R3 hown3 hgrow0 hHeld c21 hS1 hba hlv c2
    refine hK.out _ _ m2 (fun hHeld => ?_)
    clear hK K
    refine wpAnyH_take (i := 11) (v := ?bq11) rfl (by kernel_rfl) (by kernel_rfl) (by kernel_rfl) (fun _ _ _ h => h) (Or.inl ⟨by rfl, ?hybq11⟩) (by assumption) ?restbq11
    case hybq11 => intro w hSw; (try dsimp only at hSw); go_simp; (try with_reducible rfl)
    simp only [Act.put]
    refine wpAnyH_take (i := 12) (v := ?bq12) rfl (by kernel_rfl) (by kernel_rfl) (by kernel_rfl) (fun _ _ _ h => h) (Or.inl ⟨by rfl, ?hybq12⟩) (by assumption) ?restbq12
    case hybq12 => intro w hSw; (try dsimp only at hSw); go_simp; (try with_reducible rfl)
    simp only [Act.put]
    refine wpAnyH_ready (rs := [13]) (by kernel_rfl) (by simp) ?_
    refine AllReadyH.cons rfl (fun K hK => ?_) AllReadyH.nil
    go_simp
    refine hK.out _ _ (by rw [World.cell?_setCell_other _ _ _ _ (by simp)]; exact m2) (fun hHeld => ?_)
    clear hK K m2 c33 f33 hHeld
    refine wpAnyH_done (by kernel_rfl) ?_ _
    generalize w3.setCell ⟨x, 2, none⟩ (.slice (some ⟨g', 0, none⟩) (p.live.length + 1) cap') = w4 at *
    have HBW : Hid (Below B w w4) := (HW.out.mono hB).trans HO.out
    have s4 := HBW.out.size
    have HCH : Hid (Pa.change b p c = Pa.begun b (Pa.worked (Pa.came p c) (c.doc.size + 1))) := rfl
    obtain ⟨q1, q2, q3, q4, q5⟩ := hk
    clear HCA HO H1 n2 hHeld hat3 hlt3 hnc hvl hcl hins
    generalize Pa.came p c = q at *
    have hon := HP.out.blk.c4
    by_cases h0 : 0 < q.left
    · rw [decide_eq_true h0] at hon
      have t5 := HP.out.blk.c5
      have t6 := HP.out.blk.c6
      have u5 := HP.out.blk.free 5
      have hpr : q.speed * (c.doc.size + 1) ≤ 100000 * 41 := Nat.mul_le_mul q4 (by omega)
      have hpi : (q.speed : Int) * ((c.doc.size : Int) + 1) = ((q.speed * (c.doc.size + 1) : Nat) : Int) := by simp
      have hw1 : IntKind.i64.wrap ((q.speed : Int) * ((c.doc.size : Int) + 1)) = ((q.speed * (c.doc.size + 1) : Nat) : Int) := by rw [hpi, IntKind.wrap_i64]; omega
      generalize hprn : q.speed * (c.doc.size + 1) = pr at *
      have hw2 : IntKind.i64.wrap ((q.left : Int) - (pr : Int)) = (q.left : Int) - (pr : Int) := by rw [IntKind.wrap_i64]; omega
      have hd5 := HP.out.blk.s5 ((q.left : Int) - (pr : Int))
      have hd6 := hd5.c6
      clear hpi
      go_wp2_with fail
      refine wp_region_held_drew (S := fun w' => w'.cell? ⟨x, 6, none⟩ = some (.int .i64 (q.speed : Int))) (by kernel_rfl) t6 (fun hHeld => ?_)
      refine wpAnyH_take (i := 0) (v := ?cq0) rfl (by kernel_rfl) (by kernel_rfl) (by kernel_rfl) (fun _ _ _ h => h) (Or.inl ⟨by rfl, ?hycq0⟩) (by assumption) ?restcq0
      case hycq0 => intro w hSw; (try dsimp only at hSw); go_simp; (try with_reducible rfl)
      simp only [Act.put]
      refine wpAnyH_take (i := 1) (v := ?cq1) rfl (by kernel_rfl) (by kernel_rfl) (by kernel_rfl) (fun _ _ _ h => h) (Or.inl ⟨by rfl, ?hycq1⟩) (by assumption) ?restcq1
      case hycq1 => intro w hSw; (try dsimp only at hSw); go_simp; (try with_reducible rfl)
      simp only [Act.put]
      refine wpAnyH_take (i := 2) (v := ?cq2) rfl (by kernel_rfl) (by kernel_rfl) (by kernel_rfl) (fun _ _ _ h => h) (Or.inl ⟨by rfl, ?hycq2⟩) (by assumption) ?restcq2
      case hycq2 => intro w hSw; (try dsimp only at hSw); go_simp; (try with_reducible rfl)
      simp only [Act.put]
      refine wpAnyH_take (i := 3) (v := ?cq3) rfl (by kernel_rfl) (by kernel_rfl) (by kernel_rfl) (fun _ _ _ h => h) (Or.inl ⟨by rfl, ?hycq3⟩) (by assumption) ?restcq3
      case hycq3 => intro w hSw; (try dsimp only at hSw); go_simp; (try with_reducible rfl)
      simp only [Act.put]
      refine wpAnyH_take (i := 5) (v := ?cq5) rfl (by kernel_rfl) (by kernel_rfl) (by kernel_rfl) (fun _ _ _ h => h) (Or.inl ⟨by rfl, ?hycq5⟩) (by assumption) ?restcq5
      case hycq5 => intro w hSw; (try dsimp only at hSw); go_simp; (try with_reducible rfl)
      simp only [Act.put]
      refine wpAnyH_take (i := 6) (v := ?cq6) rfl (by kernel_rfl) (by kernel_rfl) (by kernel_rfl) (fun _ _ _ h => h) (Or.inl ⟨by rfl, ?hycq6⟩) (by assumption) ?restcq6
      case hycq6 => intro w hSw; (try dsimp only at hSw); go_simp; (try with_reducible rfl)
      simp only [Act.put]
      refine wpAnyH_take (i := 7) (v := ?cq7) rfl (by kernel_rfl) (by kernel_rfl) (by kernel_rfl) (fun _ _ _ h => h) (Or.inl ⟨by rfl, ?hycq7⟩) (by assumption) ?restcq7
      case hycq7 => intro w hSw; (try dsimp only at hSw); go_simp; (try with_reducible rfl)
      simp only [Act.put]
      refine wpAnyH_take (i := 8) (v := ?cq8) rfl (by kernel_rfl) (by kernel_rfl) (by kernel_rfl) (fun _ _ _ h => h) (Or.inl ⟨by rfl, ?hycq8⟩) (by assumption) ?restcq8
      case hycq8 => intro w hSw; (try dsimp only at hSw); go_simp; (try with_reducible rfl)
      simp only [Act.put]
      refine wpAnyH_take (i := 9) (v := ?cq9) rfl (by kernel_rfl) (by kernel_rfl) (by kernel_rfl) (fun _ _ _ h => h) (Or.inl ⟨by rfl, ?hycq9⟩) (by assumption) ?restcq9
      case hycq9 => intro w hSw; (try dsimp only at hSw); go_simp; (try with_reducible rfl)
      simp only [Act.put]
      refine wpAnyH_take (i := 10) (v := ?cq10) rfl (by kernel_rfl) (by kernel_rfl) (by kernel_rfl) (fun _ _ _ h => h) (Or.inl ⟨by rfl, ?hycq10⟩) (by assumption) ?restcq10
      case hycq10 => intro w hSw; (try dsimp only at hSw); go_simp; (try with_reducible rfl)
      simp only [Act.put]
      refine wpAnyH_ready (rs := [4]) (by kernel_rfl) (by simp) ?_
      refine AllReadyH.cons rfl (fun K hK => ?_) AllReadyH.nil
      go_simp
      refine hK.out _ _ (by exact hHeld) (fun hHeld => ?_)
      clear hK K
      refine wpAnyH_take (i := 11) (v := ?dq11) rfl (by kernel_rfl) (by kernel_rfl) (by kernel_rfl) (fun _ _ _ h => h) (Or.inl ⟨by rfl, ?hydq11⟩) (by assumption) ?restdq11
      case hydq11 => intro w hSw; (try dsimp only at hSw); go_simp; (try with_reducible rfl)
      simp only [Act.put]
      refine wpAnyH_take (i := 12) (v := ?dq12) rfl (by kernel_rfl) (by kernel_rfl) (by kernel_rfl) (fun _ _ _ h => h) (Or.inl ⟨by rfl, ?hydq12⟩) (by assumption) ?restdq12
      case hydq12 => intro w hSw; (try dsimp only at hSw); go_simp; (try with_reducible rfl)
      simp only [Act.put]
      refine wpAnyH_take (i := 13) (v := ?dq13) rfl (by kernel_rfl) (by kernel_rfl) (by kernel_rfl) (fun _ _ _ h => h) (Or.inl ⟨by rfl, ?hydq13⟩) (by assumption) ?restdq13
      case hydq13 => intro w hSw; (try dsimp only at hSw); go_simp; (try with_reducible rfl)
      simp only [Act.put]
      refine wpAnyH_ready (rs := [14]) (by kernel_rfl) (by simp) ?_
      refine AllReadyH.cons rfl (fun K hK => ?_) AllReadyH.nil
      go_simp
      refine hK.out _ _ (by exact hd6) (fun hHeld => ?_)
      clear hK K hHeld
      refine wpAnyH_done (by kernel_rfl) ?_ _
      have HP5 : Hid (PB (w4.setCell ⟨x, 5, none⟩ (.int .i64 ((q.left : Int) - (pr : Int)))).drew x _ _ _ _ (decide (0 < q.left)) ((q.left : Int) - (pr : Int)) (q.speed : Int) (q.hand : Int)) := hd5
      have HM5 : Hid (OwnS (w4.setCell ⟨x, 5, none⟩ (.int .i64 ((q.left : Int) - (pr : Int)))).drew B _ q.main) := HP.out.blk.keep HP.out.main 5 _
      have HF5 : Hid (OwnS (w4.setCell ⟨x, 5, none⟩ (.int .i64 ((q.left : Int) - (pr : Int)))).drew B _ q.frozen) := HP.out.blk.keep HP.out.frozen 5 _
      have HL5 : Hid (OwnS (w4.setCell ⟨x, 5, none⟩ (.int .i64 ((q.left : Int) - (pr : Int)))).drew B _ q.live) := HP.out.blk.keep HP.out.live 5 _
      have HN5 : Hid (OwnS (w4.setCell ⟨x, 5, none⟩ (.int .i64 ((q.left : Int) - (pr : Int)))).drew B _ (if q.left = 0 then [] else Pa.next q.main)) := HP.out.blk.keep HP.out.next 5 _
      have HB5 : Hid (Below B w (w4.setCell ⟨x, 5, none⟩ (.int .i64 ((q.left : Int) - (pr : Int)))).drew) := (HBW.out.setCell (p := ⟨x, 5, none⟩) HP.out.low _).drew
      clear hd5 hd6 t5 t6 u5 hon hw1 hw2
      generalize (w4.setCell ⟨x, 5, none⟩ (.int .i64 ((q.left : Int) - (pr : Int)))).drew = w5 at *
      have v5 := HP5.out.c5
      by_cases hov : q.left ≤ pr
      · have hov' : (q.left : Int) - (pr : Int) ≤ 0 := by omega
        have v3 := HP5.out.c3
        have HNX := HN5.out
        rw [if_neg (show ¬ q.left = 0 by omega)] at HNX
        have hnl := Pa.wt_len (Pa.next q.main)
        have hnw := Pa.wt_next q.main
        have hfl := Pa.wt_len q.frozen
        have hone : ∀ l : List Pa.Pg, ∀ u ∈ SH l, u.oneCell' = true := fun l u hu => by
          unfold SH at hu
          rw [List.mem_flatMap] at hu
          obtain ⟨g, _, hg⟩ := hu
          simp [SH1] at hg
          rcases hg with rfl | rfl | rfl <;> rfl
        have s5 := HB5.out.size
        have hwh : IntKind.i64.wrap ((q.hand : Int) + 1) = (q.hand : Int) + 1 := by rw [IntKind.wrap_i64]; omega
        have HWK : Hid (Pa.worked q (c.doc.size + 1) = Pa.handOver q) := by show _ = _; unfold Pa.worked; rw [if_pos h0, hprn, if_pos hov]
        go_wp2_with (first
          | (at_builtin; refine wpList_append_row rfl (.tmp 90) (.tmp 94) 152 rfl w5.heap.size 165 i0 (.agg #[.int .i64 0, .int .i64 0, .bool false]) 3 24 Try.underlying152 hi hz0 hz1 hz2 rfl (by decide) (.slice none 0 0) 0 [] rfl (World.ownsRow_nil _ _ _ _) _ (Pa.next q.main).length (SH (Pa.next q.main)) rfl (HNX.weaken (Nat.zero_le _)) (hone _) (by unfold maxLen; omega) (by omega) (Nat.le_refl _) ?_; intro v6 w6 hown6 hgrow6; have hb6 : Below w5.heap.size w5 w6 := ⟨hgrow6.os, hgrow6.tape, hgrow6.output, hgrow6.size, fun k hk => hgrow6.block k hk (by simp [Value.ownBlock])⟩; have v1 := (HP5.out.below hb6).c1; have HF6 := HF5.out.below hb6; have s6 := hb6.size)
          | (at_builtin; refine wpList_append_row rfl _ _ 152 rfl w5.heap.size 165 i0 (.agg #[.int .i64 0, .int .i64 0, .bool false]) 3 24 Try.underlying152 hi hz0 hz1 hz2 rfl (by decide) v6 _ _ rfl hown6 _ q.frozen.length (SH q.frozen) rfl (HF6.weaken (Nat.zero_le _)) (hone _) (by unfold maxLen; omega) (by omega) (by omega) ?_; intro v7 w7 hown7 hgrow7; have hb7 : Below w5.heap.size w5 w7 := hb6.grown hgrow7 (by omega) (fun k hk => (World.ownsRow.lt hown6 k hk).1); have hm7 : OwnS w7 w5.heap.size v7 (Pa.next q.main ++ q.frozen) := (by unfold OwnS; rw [SH_append, List.length_append]; simpa using hown7); obtain ⟨a7, c7, e7, _⟩ := hm7.any; rw [List.length_append] at e7; subst e7; obtain ⟨k0, k1, k2, k3, k4, k5, k6, k7⟩ := (HP5.out.below hb7).hand_over (.slice a7 ((Pa.next q.main).length + q.frozen.length) c7); have k00 := k0.1; have k01 := k0.2; have k10 := k1.1; have k11 := k1.2; have k20 := k2.1; have k21 := k2.2; have k30 := k3.1; have k31 := k3.2; have k40 := k4.1; have k41 := k4.2; have k50 := k5.1; have k51 := k5.2; clear k0 k1 k2 k3 k4 k5))
        have hP8 : PIn B ((((((w7.setCell ⟨x, 0, none⟩ (.slice a7 ((Pa.next q.main).length + q.frozen.length) c7)).setCell ⟨x, 3, none⟩ (.slice none 0 0)).setCell ⟨x, 1, none⟩ (.slice none 0 0)).setCell ⟨x, 4, none⟩ (.bool false)).setCell ⟨x, 5, none⟩ (.int .i64 0)).setCell ⟨x, 7, none⟩ (.int .i64 ((q.hand : Int) + 1))) x (Pa.handOver q) (.slice a7 ((Pa.next q.main).length + q.frozen.length) c7) (.slice none 0 0) _ (.slice none 0 0) := ⟨k6, k7 _ _ _ (hm7.weaken (by omega)), OwnS.nil _ _, k7 _ _ _ (HL5.out.below hb7), OwnS.nil _ _, fun k h1 h2 => (by have := HL5.out.lt k h1; have := hm7.at_least k h2; omega), fun _ _ => by simp [Value.ownBlock], fun _ _ => by simp [Value.ownBlock], HP.out.low⟩
        have s7 := hb7.size
        have hx := HP.out.low
        have HB8 : Hid (Below B w ((((((w7.setCell ⟨x, 0, none⟩ (.slice a7 ((Pa.next q.main).length + q.frozen.length) c7)).setCell ⟨x, 3, none⟩ (.slice none 0 0)).setCell ⟨x, 1, none⟩ (.slice none 0 0)).setCell ⟨x, 4, none⟩ (.bool false)).setCell ⟨x, 5, none⟩ (.int .i64 0)).setCell ⟨x, 7, none⟩ (.int .i64 ((q.hand : Int) + 1)))) := ((((((HB5.out.trans (hb7.mono (by omega))).setCell (p := ⟨x, 0, none⟩) hx _).setCell (p := ⟨x, 3, none⟩) hx _).setCell (p := ⟨x, 1, none⟩) hx _).setCell (p := ⟨x, 4, none⟩) hx _).setCell (p := ⟨x, 5, none⟩) hx _).setCell (p := ⟨x, 7, none⟩) hx _
        have s8 := HB8.out.size
        have hmw : Pa.wt (Pa.handOver q).main ≤ 10000 := by
          show Pa.wt (Pa.next q.main ++ q.frozen) ≤ _
          rw [Pa.wt_append]; omega
        have HBG := rBegin_any B ((((((w7.setCell ⟨x, 0, none⟩ (.slice a7 ((Pa.next q.main).length + q.frozen.length) c7)).setCell ⟨x, 3, none⟩ (.slice none 0 0)).setCell ⟨x, 1, none⟩ (.slice none 0 0)).setCell ⟨x, 4, none⟩ (.bool false)).setCell ⟨x, 5, none⟩ (.int .i64 0)).setCell ⟨x, 7, none⟩ (.int .i64 ((q.hand : Int) + 1))) x b (Pa.handOver q) _ _ _ _ hb hmw q2 (by omega) hP8
        refine HBG.mono ?_
        rintro e w9 ⟨rfl, hP9, hB9⟩
        clear HBG hP8 k00 k01 k10 k11 k20 k21 k30 k31 k40 k41 k50 k51 k6 k7
        go_wp2_with fail
        go_end0
        exact ⟨rfl, by rw [HCH.out, HWK.out]; exact hP9, HB8.out.trans hB9⟩
      · have hov' : ¬ (q.left : Int) - (pr : Int) ≤ 0 := by omega
        have s5 := HB5.out.size
        have hP6 : PIn B w5 x { q with left := q.left - pr, since := q.since + (c.doc.size + 1) } vm vf (.slice (some ⟨g', 0, none⟩) (p.live.length + 1) cap') vn := by
          refine ⟨?_, HM5.out, HF5.out, HL5.out, ?_, HP.out.am, HP.out.af, HP.out.an, HP.out.low⟩
          · have e1 : decide (0 < q.left - pr) = decide (0 < q.left) := by rw [decide_eq_decide]; omega
            have e2 : ((q.left - pr : Nat) : Int) = (q.left : Int) - (pr : Int) := by omega
            show PB w5 x _ _ _ _ (decide (0 < q.left - pr)) ((q.left - pr : Nat) : Int) _ _
            rw [e1, e2]
            exact HP5.out
          · have e1 : ¬ q.left - pr = 0 := by omega
            show OwnS w5 B _ (if q.left - pr = 0 then [] else Pa.next q.main)
            rw [if_neg e1]
            have := HN5.out
            rw [if_neg (by omega)] at this
            exact this
        have HWK : Hid (Pa.worked q (c.doc.size + 1) = { q with left := q.left - pr, since := q.since + (c.doc.size + 1) }) := by show _ = _; unfold Pa.worked; rw [if_pos h0, hprn, if_neg hov]
        have HBG : Hid (Calls Try.prog 108 #[.pointer (some ⟨x, 0, none⟩), .int .i64 (b : Int)] w5 fun e w' => e = .returned (.tuple #[]) ∧ (∃ vm' vf' vl' vn', PIn B w' x (Pa.begun b { q with left := q.left - pr, since := q.since + (c.doc.size + 1) }) vm' vf' vl' vn') ∧ Below B w5 w') := rBegin_any B w5 x b _ _ _ _ _ hb (by show Pa.wt q.main ≤ _; omega) q2 (by omega) hP6
        clear hP6
        go_wp2_with fail
        refine HBG.out.mono ?_
        rintro e w6 ⟨rfl, hP6, hB6⟩
        go_wp2_with fail
        go_end0
        exact ⟨rfl, by rw [HCH.out, HWK.out]; exact hP6, HB5.out.trans hB6⟩
    · rw [decide_eq_false h0] at hon
      have HWK : Hid (Pa.worked q (c.doc.size + 1) = q) := by show _ = _; unfold Pa.worked; rw [if_neg h0]
      have HBG : Hid (Calls Try.prog 108 #[.pointer (some ⟨x, 0, none⟩), .int .i64 (b : Int)] w4 fun e w' => e = .returned (.tuple #[]) ∧ (∃ vm' vf' vl' vn', PIn B w' x (Pa.begun b q) vm' vf' vl' vn') ∧ Below B w4 w') := rBegin_any B w4 x b q _ _ _ _ hb (by omega) q2 (by omega) HP.out
      go_wp2_with fail
      refine HBG.out.mono ?_
      rintro e w5 ⟨rfl, hP5, hB5⟩
      go_wp2_with fail
      go_end0
      exact ⟨rfl, by rw [HCH.out, HWK.out]; exact hP5, HBW.out.trans hB5⟩
  · skip
    refine wpAnyH_ready (rs := [10]) (by kernel_rfl) (by simp) ?_
    refine AllReadyH.cons rfl (fun K hK => ?_) AllReadyH.nil
    refine step_lies_at 24 rfl (w1.heap.size + 1) rfl (.tmp 18) (.tmp 23) 152 rfl B 165 i0 (.agg #[.int .i64 0, .int .i64 0, .bool false]) 3 24 Try.underlying152 hi hz0 hz1 hz2 rfl (by decide) (.slice al p.live.length cl) p.live.length (SH p.live) (by simp [Act.eval]) (World.ownsRow.alloc hlv _) ⟨w1.heap.size, 0, none⟩ 1 1 (SH1 ⟨c.id, c.doc, false, false⟩) (by simp [Act.eval]) rfl (World.news_of_block (cs := #[.int .i64 (c.id : Int), .int .i64 ((c.doc.size : Int) + 1), .bool false]) (heap_alloc_new w1 _)) (by intro u hu2; simp [SH1] at hu2; rcases hu2 with rfl | rfl | rfl <;> rfl) (by decide) (by unfold maxLen; omega) (by omega) (by simp; omega) (by simp) ?_
    intro g' cap' w3 hown3 hgrow0 hat3 hlt3
    obtain ⟨R1, R2, R3⟩ := H1.out.more (pg := ⟨c.id, c.doc, false, false⟩) hown3 (grown_onlyS hgrow0) (hat3.imp (fun h => h) (fun h => by omega))
    have HP : Hid (PIn B (w3.setCell ⟨x, 2, none⟩ (.slice (some ⟨g', 0, none⟩) (p.live.length + 1) cap')) x (Pa.came p c) vm vf (.slice (some ⟨g', 0, none⟩) (p.live.length + 1) cap') vn) := by
      show PIn _ _ _ _ _ _ _ _
      rw [HCA.out]; exact R1
    have HO : Hid (Below B w1 (w3.setCell ⟨x, 2, none⟩ (.slice (some ⟨g', 0, none⟩) (p.live.length + 1) cap'))) := R2
    have c33 := R3.c2
    have f33 := R3.free 2
    have hnc : some w.heap.size ≠ (Value.slice al p.live.length cl).ownBlock := fun e => by have := hvl _ e.symm; omega
    have m2 : w3.cell? ⟨w.heap.size, 2, none⟩ = some (.int .i64 (c.id : Int)) := World.grownBy.cell hgrow0 (hS1 _) hnc
    clear R1 R2 R3 hown3 hgrow0 hHeld c21 hS1 hba hlv c2
    refine hK.out _ _ m2 (fun hHeld => ?_)
    clear hK K
    refine wpAnyH_take (i := 11) (v := ?bqq11) rfl (by kernel_rfl) (by kernel_rfl) (by kernel_rfl) (fun _ _ _ h => h) (Or.inl ⟨by rfl, ?hybqq11⟩) (by assumption) ?restbqq11
    case hybqq11 => intro w hSw; (try dsimp only at hSw); go_simp; (try with_reducible rfl)
    simp only [Act.put]
    refine wpAnyH_take (i := 12) (v := ?bqq12) rfl (by kernel_rfl) (by kernel_rfl) (by kernel_rfl) (fun _ _ _ h => h) (Or.inl ⟨by rfl, ?hybqq12⟩) (by assumption) ?restbqq12
    case hybqq12 => intro w hSw; (try dsimp only at hSw); go_simp; (try with_reducible rfl)
    simp only [Act.put]
    refine wpAnyH_ready (rs := [13]) (by kernel_rfl) (by simp) ?_
    refine AllReadyH.cons rfl (fun K hK => ?_) AllReadyH.nil
    go_simp
    refine hK.out _ _ (by rw [World.cell?_setCell_other _ _ _ _ (by simp)]; exact m2) (fun hHeld => ?_)
    clear hK K m2 c33 f33 hHeld
    refine wpAnyH_done (by kernel_rfl) ?_ _
    generalize w3.setCell ⟨x, 2, none⟩ (.slice (some ⟨g', 0, none⟩) (p.live.length + 1) cap') = w4 at *
    have HBW : Hid (Below B w w4) := (HW.out.mono hB).trans HO.out
    have s4 := HBW.out.size
    have HCH : Hid (Pa.change b p c = Pa.begun b (Pa.worked (Pa.came p c) (c.doc.size + 1))) := rfl
    obtain ⟨q1, q2, q3, q4, q5⟩ := hk
    clear HCA HO H1 n2 hHeld hat3 hlt3 hnc hvl hcl hins
    generalize Pa.came p c = q at *
    have hon := HP.out.blk.c4
    by_cases h0 : 0 < q.left
    · rw [decide_eq_true h0] at hon
      have t5 := HP.out.blk.c5
      have t6 := HP.out.blk.c6
      have u5 := HP.out.blk.free 5
      have hpr : q.speed * (c.doc.size + 1) ≤ 100000 * 41 := Nat.mul_le_mul q4 (by omega)
      have hpi : (q.speed : Int) * ((c.doc.size : Int) + 1) = ((q.speed * (c.doc.size + 1) : Nat) : Int) := by simp
      have hw1 : IntKind.i64.wrap ((q.speed : Int) * ((c.doc.size : Int) + 1)) = ((q.speed * (c.doc.size + 1) : Nat) : Int) := by rw [hpi, IntKind.wrap_i64]; omega
      generalize hprn : q.speed * (c.doc.size + 1) = pr at *
      have hw2 : IntKind.i64.wrap ((q.left : Int) - (pr : Int)) = (q.left : Int) - (pr : Int) := by rw [IntKind.wrap_i64]; omega
      have hd5 := HP.out.blk.s5 ((q.left : Int) - (pr : Int))
      have hd6 := hd5.c6
      clear hpi
      go_wp2_with fail
      refine wp_region_held_drew (S := fun w' => w'.cell? ⟨x, 6, none⟩ = some (.int .i64 (q.speed : Int))) (by kernel_rfl) t6 (fun hHeld => ?_)
      refine wpAnyH_take (i := 0) (v := ?cqq0) rfl (by kernel_rfl) (by kernel_rfl) (by kernel_rfl) (fun _ _ _ h => h) (Or.inl ⟨by rfl, ?hycqq0⟩) (by assumption) ?restcqq0
      case hycqq0 => intro w hSw; (try dsimp only at hSw); go_simp; (try with_reducible rfl)
      simp only [Act.put]
      refine wpAnyH_take (i := 1) (v := ?cqq1) rfl (by kernel_rfl) (by kernel_rfl) (by kernel_rfl) (fun _ _ _ h => h) (Or.inl ⟨by rfl, ?hycqq1⟩) (by assumption) ?restcqq1
      case hycqq1 => intro w hSw; (try dsimp only at hSw); go_simp; (try with_reducible rfl)
      simp only [Act.put]
      refine wpAnyH_take (i := 2) (v := ?cqq2) rfl (by kernel_rfl) (by kernel_rfl) (by kernel_rfl) (fun _ _ _ h => h) (Or.inl ⟨by rfl, ?hycqq2⟩) (by assumption) ?restcqq2
      case hycqq2 => intro w hSw; (try dsimp only at hSw); go_simp; (try with_reducible rfl)
      simp only [Act.put]
      refine wpAnyH_take (i := 3) (v := ?cqq3) rfl (by kernel_rfl) (by kernel_rfl) (by kernel_rfl) (fun _ _ _ h => h) (Or.inl ⟨by rfl, ?hycqq3⟩) (by assumption) ?restcqq3
      case hycqq3 => intro w hSw; (try dsimp only at hSw); go_simp; (try with_reducible rfl)
      simp only [Act.put]
      refine wpAnyH_take (i := 5) (v := ?cqq5) rfl (by kernel_rfl) (by kernel_rfl) (by kernel_rfl) (fun _ _ _ h => h) (Or.inl ⟨by rfl, ?hycqq5⟩) (by assumption) ?restcqq5
      case hycqq5 => intro w hSw; (try dsimp only at hSw); go_simp; (try with_reducible rfl)
      simp only [Act.put]
      refine wpAnyH_take (i := 6) (v := ?cqq6) rfl (by kernel_rfl) (by kernel_rfl) (by kernel_rfl) (fun _ _ _ h => h) (Or.inl ⟨by rfl, ?hycqq6⟩) (by assumption) ?restcqq6
      case hycqq6 => intro w hSw; (try dsimp only at hSw); go_simp; (try with_reducible rfl)
      simp only [Act.put]
      refine wpAnyH_take (i := 7) (v := ?cqq7) rfl (by kernel_rfl) (by kernel_rfl) (by kernel_rfl) (fun _ _ _ h => h) (Or.inl ⟨by rfl, ?hycqq7⟩) (by assumption) ?restcqq7
      case hycqq7 => intro w hSw; (try dsimp only at hSw); go_simp; (try with_reducible rfl)
      simp only [Act.put]
      refine wpAnyH_take (i := 8) (v := ?cqq8) rfl (by kernel_rfl) (by kernel_rfl) (by kernel_rfl) (fun _ _ _ h => h) (Or.inl ⟨by rfl, ?hycqq8⟩) (by assumption) ?restcqq8
      case hycqq8 => intro w hSw; (try dsimp only at hSw); go_simp; (try with_reducible rfl)
      simp only [Act.put]
      refine wpAnyH_take (i := 9) (v := ?cqq9) rfl (by kernel_rfl) (by kernel_rfl) (by kernel_rfl) (fun _ _ _ h => h) (Or.inl ⟨by rfl, ?hycqq9⟩) (by assumption) ?restcqq9
      case hycqq9 => intro w hSw; (try dsimp only at hSw); go_simp; (try with_reducible rfl)
      simp only [Act.put]
      refine wpAnyH_take (i := 10) (v := ?cqq10) rfl (by kernel_rfl) (by kernel_rfl) (by kernel_rfl) (fun _ _ _ h => h) (Or.inl ⟨by rfl, ?hycqq10⟩) (by assumption) ?restcqq10
      case hycqq10 => intro w hSw; (try dsimp only at hSw); go_simp; (try with_reducible rfl)
      simp only [Act.put]
      refine wpAnyH_ready (rs := [4]) (by kernel_rfl) (by simp) ?_
      refine AllReadyH.cons rfl (fun K hK => ?_) AllReadyH.nil
      go_simp
      refine hK.out _ _ (by exact hHeld) (fun hHeld => ?_)
      clear hK K
      refine wpAnyH_take (i := 11) (v := ?dqq11) rfl (by kernel_rfl) (by kernel_rfl) (by kernel_rfl) (fun _ _ _ h => h) (Or.inl ⟨by rfl, ?hydqq11⟩) (by assumption) ?restdqq11
      case hydqq11 => intro w hSw; (try dsimp only at hSw); go_simp; (try with_reducible rfl)
      simp only [Act.put]
      refine wpAnyH_take (i := 12) (v := ?dqq12) rfl (by kernel_rfl) (by kernel_rfl) (by kernel_rfl) (fun _ _ _ h => h) (Or.inl ⟨by rfl, ?hydqq12⟩) (by assumption) ?restdqq12
      case hydqq12 => intro w hSw; (try dsimp only at hSw); go_simp; (try with_reducible rfl)
      simp only [Act.put]
      refine wpAnyH_take (i := 13) (v := ?dqq13) rfl (by kernel_rfl) (by kernel_rfl) (by kernel_rfl) (fun _ _ _ h => h) (Or.inl ⟨by rfl, ?hydqq13⟩) (by assumption) ?restdqq13
      case hydqq13 => intro w hSw; (try dsimp only at hSw); go_simp; (try with_reducible rfl)
      simp only [Act.put]
      refine wpAnyH_ready (rs := [14]) (by kernel_rfl) (by simp) ?_
      refine AllReadyH.cons rfl (fun K hK => ?_) AllReadyH.nil
      go_simp
      refine hK.out _ _ (by exact hd6) (fun hHeld => ?_)
      clear hK K hHeld
      refine wpAnyH_done (by kernel_rfl) ?_ _
      have HP5 : Hid (PB (w4.setCell ⟨x, 5, none⟩ (.int .i64 ((q.left : Int) - (pr : Int)))).drew x _ _ _ _ (decide (0 < q.left)) ((q.left : Int) - (pr : Int)) (q.speed : Int) (q.hand : Int)) := hd5
      have HM5 : Hid (OwnS (w4.setCell ⟨x, 5, none⟩ (.int .i64 ((q.left : Int) - (pr : Int)))).drew B _ q.main) := HP.out.blk.keep HP.out.main 5 _
      have HF5 : Hid (OwnS (w4.setCell ⟨x, 5, none⟩ (.int .i64 ((q.left : Int) - (pr : Int)))).drew B _ q.frozen) := HP.out.blk.keep HP.out.frozen 5 _
      have HL5 : Hid (OwnS (w4.setCell ⟨x, 5, none⟩ (.int .i64 ((q.left : Int) - (pr : Int)))).drew B _ q.live) := HP.out.blk.keep HP.out.live 5 _
      have HN5 : Hid (OwnS (w4.setCell ⟨x, 5, none⟩ (.int .i64 ((q.left : Int) - (pr : Int)))).drew B _ (if q.left = 0 then [] else Pa.next q.main)) := HP.out.blk.keep HP.out.next 5 _
      have HB5 : Hid (Below B w (w4.setCell ⟨x, 5, none⟩ (.int .i64 ((q.left : Int) - (pr : Int)))).drew) := (HBW.out.setCell (p := ⟨x, 5, none⟩) HP.out.low _).drew
      clear hd5 hd6 t5 t6 u5 hon hw1 hw2
      generalize (w4.setCell ⟨x, 5, none⟩ (.int .i64 ((q.left : Int) - (pr : Int)))).drew = w5 at *
      have v5 := HP5.out.c5
      by_cases hov : q.left ≤ pr
      · have hov' : (q.left : Int) - (pr : Int) ≤ 0 := by omega
        have v3 := HP5.out.c3
        have HNX := HN5.out
        rw [if_neg (show ¬ q.left = 0 by omega)] at HNX
        have hnl := Pa.wt_len (Pa.next q.main)
        have hnw := Pa.wt_next q.main
        have hfl := Pa.wt_len q.frozen
        have hone : ∀ l : List Pa.Pg, ∀ u ∈ SH l, u.oneCell' = true := fun l u hu => by
          unfold SH at hu
          rw [List.mem_flatMap] at hu
          obtain ⟨g, _, hg⟩ := hu
          simp [SH1] at hg
          rcases hg with rfl | rfl | rfl <;> rfl
        have s5 := HB5.out.size
        have hwh : IntKind.i64.wrap ((q.hand : Int) + 1) = (q.hand : Int) + 1 := by rw [IntKind.wrap_i64]; omega
        have HWK : Hid (Pa.worked q (c.doc.size + 1) = Pa.handOver q) := by show _ = _; unfold Pa.worked; rw [if_pos h0, hprn, if_pos hov]
        go_wp2_with (first
          | (at_builtin; refine wpList_append_row rfl (.tmp 90) (.tmp 94) 152 rfl w5.heap.size 165 i0 (.agg #[.int .i64 0, .int .i64 0, .bool false]) 3 24 Try.underlying152 hi hz0 hz1 hz2 rfl (by decide) (.slice none 0 0) 0 [] rfl (World.ownsRow_nil _ _ _ _) _ (Pa.next q.main).length (SH (Pa.next q.main)) rfl (HNX.weaken (Nat.zero_le _)) (hone _) (by unfold maxLen; omega) (by omega) (Nat.le_refl _) ?_; intro v6 w6 hown6 hgrow6; have hb6 : Below w5.heap.size w5 w6 := ⟨hgrow6.os, hgrow6.tape, hgrow6.output, hgrow6.size, fun k hk => hgrow6.block k hk (by simp [Value.ownBlock])⟩; have v1 := (HP5.out.below hb6).c1; have HF6 := HF5.out.below hb6; have s6 := hb6.size)
          | (at_builtin; refine wpList_append_row rfl _ _ 152 rfl w5.heap.size 165 i0 (.agg #[.int .i64 0, .int .i64 0, .bool false]) 3 24 Try.underlying152 hi hz0 hz1 hz2 rfl (by decide) v6 _ _ rfl hown6 _ q.frozen.length (SH q.frozen) rfl (HF6.weaken (Nat.zero_le _)) (hone _) (by unfold maxLen; omega) (by omega) (by omega) ?_; intro v7 w7 hown7 hgrow7; have hb7 : Below w5.heap.size w5 w7 := hb6.grown hgrow7 (by omega) (fun k hk => (World.ownsRow.lt hown6 k hk).1); have hm7 : OwnS w7 w5.heap.size v7 (Pa.next q.main ++ q.frozen) := (by unfold OwnS; rw [SH_append, List.length_append]; simpa using hown7); obtain ⟨a7, c7, e7, _⟩ := hm7.any; rw [List.length_append] at e7; subst e7; obtain ⟨k0, k1, k2, k3, k4, k5, k6, k7⟩ := (HP5.out.below hb7).hand_over (.slice a7 ((Pa.next q.main).length + q.frozen.length) c7); have k00 := k0.1; have k01 := k0.2; have k10 := k1.1; have k11 := k1.2; have k20 := k2.1; have k21 := k2.2; have k30 := k3.1; have k31 := k3.2; have k40 := k4.1; have k41 := k4.2; have k50 := k5.1; have k51 := k5.2; clear k0 k1 k2 k3 k4 k5))
        have hP8 : PIn B ((((((w7.setCell ⟨x, 0, none⟩ (.slice a7 ((Pa.next q.main).length + q.frozen.length) c7)).setCell ⟨x, 3, none⟩ (.slice none 0 0)).setCell ⟨x, 1, none⟩ (.slice none 0 0)).setCell ⟨x, 4, none⟩ (.bool false)).setCell ⟨x, 5, none⟩ (.int .i64 0)).setCell ⟨x, 7, none⟩ (.int .i64 ((q.hand : Int) + 1))) x (Pa.handOver q) (.slice a7 ((Pa.next q.main).length + q.frozen.length) c7) (.slice none 0 0) _ (.slice none 0 0) := ⟨k6, k7 _ _ _ (hm7.weaken (by omega)), OwnS.nil _ _, k7 _ _ _ (HL5.out.below hb7), OwnS.nil _ _, fun k h1 h2 => (by have := HL5.out.lt k h1; have := hm7.at_least k h2; omega), fun _ _ => by simp [Value.ownBlock], fun _ _ => by simp [Value.ownBlock], HP.out.low⟩
        have s7 := hb7.size
        have hx := HP.out.low
        have HB8 : Hid (Below B w ((((((w7.setCell ⟨x, 0, none⟩ (.slice a7 ((Pa.next q.main).length + q.frozen.length) c7)).setCell ⟨x, 3, none⟩ (.slice none 0 0)).setCell ⟨x, 1, none⟩ (.slice none 0 0)).setCell ⟨x, 4, none⟩ (.bool false)).setCell ⟨x, 5, none⟩ (.int .i64 0)).setCell ⟨x, 7, none⟩ (.int .i64 ((q.hand : Int) + 1)))) := ((((((HB5.out.trans (hb7.mono (by omega))).setCell (p := ⟨x, 0, none⟩) hx _).setCell (p := ⟨x, 3, none⟩) hx _).setCell (p := ⟨x, 1, none⟩) hx _).setCell (p := ⟨x, 4, none⟩) hx _).setCell (p := ⟨x, 5, none⟩) hx _).setCell (p := ⟨x, 7, none⟩) hx _
        have s8 := HB8.out.size
        have hmw : Pa.wt (Pa.handOver q).main ≤ 10000 := by
          show Pa.wt (Pa.next q.main ++ q.frozen) ≤ _
          rw [Pa.wt_append]; omega
        have HBG := rBegin_any B ((((((w7.setCell ⟨x, 0, none⟩ (.slice a7 ((Pa.next q.main).length + q.frozen.length) c7)).setCell ⟨x, 3, none⟩ (.slice none 0 0)).setCell ⟨x, 1, none⟩ (.slice none 0 0)).setCell ⟨x, 4, none⟩ (.bool false)).setCell ⟨x, 5, none⟩ (.int .i64 0)).setCell ⟨x, 7, none⟩ (.int .i64 ((q.hand : Int) + 1))) x b (Pa.handOver q) _ _ _ _ hb hmw q2 (by omega) hP8
        refine HBG.mono ?_
        rintro e w9 ⟨rfl, hP9, hB9⟩
        clear HBG hP8 k00 k01 k10 k11 k20 k21 k30 k31 k40 k41 k50 k51 k6 k7
        go_wp2_with fail
        go_end0
        exact ⟨rfl, by rw [HCH.out, HWK.out]; exact hP9, HB8.out.trans hB9⟩
      · have hov' : ¬ (q.left : Int) - (pr : Int) ≤ 0 := by omega
        have s5 := HB5.out.size
        have hP6 : PIn B w5 x { q with left := q.left - pr, since := q.since + (c.doc.size + 1) } vm vf (.slice (some ⟨g', 0, none⟩) (p.live.length + 1) cap') vn := by
          refine ⟨?_, HM5.out, HF5.out, HL5.out, ?_, HP.out.am, HP.out.af, HP.out.an, HP.out.low⟩
          · have e1 : decide (0 < q.left - pr) = decide (0 < q.left) := by rw [decide_eq_decide]; omega
            have e2 : ((q.left - pr : Nat) : Int) = (q.left : Int) - (pr : Int) := by omega
            show PB w5 x _ _ _ _ (decide (0 < q.left - pr)) ((q.left - pr : Nat) : Int) _ _
            rw [e1, e2]
            exact HP5.out
          · have e1 : ¬ q.left - pr = 0 := by omega
            show OwnS w5 B _ (if q.left - pr = 0 then [] else Pa.next q.main)
            rw [if_neg e1]
            have := HN5.out
            rw [if_neg (by omega)] at this
            exact this
        have HWK : Hid (Pa.worked q (c.doc.size + 1) = { q with left := q.left - pr, since := q.since + (c.doc.size + 1) }) := by show _ = _; unfold Pa.worked; rw [if_pos h0, hprn, if_neg hov]
        have HBG : Hid (Calls Try.prog 108 #[.pointer (some ⟨x, 0, none⟩), .int .i64 (b : Int)] w5 fun e w' => e = .returned (.tuple #[]) ∧ (∃ vm' vf' vl' vn', PIn B w' x (Pa.begun b { q with left := q.left - pr, since := q.since + (c.doc.size + 1) }) vm' vf' vl' vn') ∧ Below B w5 w') := rBegin_any B w5 x b _ _ _ _ _ hb (by show Pa.wt q.main ≤ _; omega) q2 (by omega) hP6
        clear hP6
        go_wp2_with fail
        refine HBG.out.mono ?_
        rintro e w6 ⟨rfl, hP6, hB6⟩
        go_wp2_with fail
        go_end0
        exact ⟨rfl, by rw [HCH.out, HWK.out]; exact hP6, HB5.out.trans hB6⟩
    · rw [decide_eq_false h0] at hon
      have HWK : Hid (Pa.worked q (c.doc.size + 1) = q) := by show _ = _; unfold Pa.worked; rw [if_neg h0]
      have HBG : Hid (Calls Try.prog 108 #[.pointer (some ⟨x, 0, none⟩), .int .i64 (b : Int)] w4 fun e w' => e = .returned (.tuple #[]) ∧ (∃ vm' vf' vl' vn', PIn B w' x (Pa.begun b q) vm' vf' vl' vn') ∧ Below B w4 w') := rBegin_any B w4 x b q _ _ _ _ hb (by omega) q2 (by omega) HP.out
      go_wp2_with fail
      refine HBG.out.mono ?_
      rintro e w5 ⟨rfl, hP5, hB5⟩
      go_wp2_with fail
      go_end0
      exact ⟨rfl, by rw [HCH.out, HWK.out]; exact hP5, HBW.out.trans hB5⟩

end Go.Proofs.Ythkndfkkgncjfab
