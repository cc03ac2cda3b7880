/- The code's index serves: questions. -/
import Derived.Test.YtpikkedeoebiaaaCodeD
import Derived.Deep.RegionHeld3
namespace Go.Proofs.Ytpikkedeoebiaaa
open Go.RowKit
set_option maxRecDepth 100000

set_option maxHeartbeats 1000000 in
theorem cExtract_none (x : Nat) (a b p : Int) (v : Value) (n m : Int) (L : List Do.Chg) (id fr to : Int) (w : World) (hl : L.length ≤ 60) (h1 : CodeAt w x a b p v n m) (h2 : OwnD w 0 v L) (hf : Do.at? L id = none) :
    Calls Try.prog 28 #[.pointer (some ⟨x, 0, none⟩), .int .i64 id, .int .i64 fr, .int .i64 to] w fun e w' => e = .returned (.tuple #[.string ⟨#[]⟩, .int .i64 4]) ∧ Below w.heap.size w w' := by
  have HB : Hid (Calls Try.prog 55 #[.pointer (some ⟨x, 3, none⟩), .int .i64 id] w fun e w' => e = .returned (.tuple #[.string ⟨#[]⟩, .bool false]) ∧ Below w.heap.size w w') := cFind_any x 0 v L id (⟨#[]⟩, false) w (by unfold fdRes; rw [hf]) (by omega) h1.c3 h2
  clear hf
  go_enter Try.func28, Try.ntmps28
  go_wp2_with fail
  refine HB.out.mono ?_
  rintro e w1 ⟨rfl, hb1⟩
  go_wp2
  go_ret2
  exact ⟨rfl, hb1⟩

set_option maxHeartbeats 1000000 in
theorem cExtract_some (x : Nat) (a b p : Int) (v : Value) (n m : Int) (L : List Do.Chg) (id fr to : Int) (k : Nat) (c : Do.Chg) (w : World) (hl : L.length ≤ 60) (h1 : CodeAt w x a b p v n m) (h2 : OwnD w 0 v L) (hf : Do.at? L id = some k) (hck : L[k]? = some c) (_hd : c.doc.size ≤ 40) :
    Calls Try.prog 28 #[.pointer (some ⟨x, 0, none⟩), .int .i64 id, .int .i64 fr, .int .i64 to] w fun e w' => e = .returned (if fr < 0 ∨ to < fr ∨ (c.doc.size : Int) < to then .tuple #[.string ⟨#[]⟩, .int .i64 7] else .tuple #[.string (c.doc.extract fr.toNat to.toNat), .int .i64 0]) ∧ Below w.heap.size w w' := by
  have HB : Hid (Calls Try.prog 55 #[.pointer (some ⟨x, 3, none⟩), .int .i64 id] w fun e w' => e = .returned (.tuple #[.string c.doc, .bool true]) ∧ Below w.heap.size w w') := cFind_any x 0 v L id (c.doc, true) w (by unfold fdRes; rw [hf]; simp only [hck]) (by omega) h1.c3 h2
  clear hf hck
  go_enter Try.func28, Try.ntmps28
  go_wp2_with fail
  refine HB.out.mono ?_
  rintro e w1 ⟨rfl, hb1⟩
  clear HB
  by_cases q1 : fr < 0
  · have HP : Hid (fr < 0 ∨ to < fr ∨ (c.doc.size : Int) < to) := .inl q1
    go_wp2_with fail
    go_ret2
    exact ⟨by first | rfl | (rw [if_pos HP.out]; rfl), hb1⟩
  · by_cases q2 : to < fr
    · have HP : Hid (fr < 0 ∨ to < fr ∨ (c.doc.size : Int) < to) := .inr (.inl q2)
      go_wp2_with fail
      go_ret2
      exact ⟨by first | rfl | (rw [if_pos HP.out]; rfl), hb1⟩
    · by_cases q3 : (c.doc.size : Int) < to
      · have HP : Hid (fr < 0 ∨ to < fr ∨ (c.doc.size : Int) < to) := .inr (.inr q3)
        go_wp2_with fail
        go_ret2
        exact ⟨by first | rfl | (rw [if_pos HP.out]; rfl), hb1⟩
      · have HP : Hid (¬ (fr < 0 ∨ to < fr ∨ (c.doc.size : Int) < to)) := by show ¬ _; omega
        obtain ⟨f, rfl⟩ := Int.eq_ofNat_of_zero_le (show 0 ≤ fr by omega)
        obtain ⟨t, rfl⟩ := Int.eq_ofNat_of_zero_le (show 0 ≤ to by omega)
        have hft : f ≤ t := by omega
        have htd : t ≤ c.doc.size := by omega
        clear q1 q2 q3
        go_wp2_with fail
        go_ret2
        exact ⟨by first | rfl | (rw [if_neg HP.out]; rfl), hb1⟩

set_option maxHeartbeats 400000 in
theorem cxCount_no (x : Nat) (s : ByteArray) (w : World) (h : s.size < 1 ∨ 16 < s.size) :
    Calls Try.prog 34 #[.pointer (some ⟨x, 0, none⟩), .string s] w fun e w' => e = .returned (.tuple #[.int .i64 0, .int .i64 5]) ∧ w' = w := by
  rcases h with h | h
  · have h0 : decide ((s.size : Int) < 1) = true := by rw [decide_eq_true_eq]; omega
    go_enter Try.func34, Try.ntmps34
    go_wp2
    go_ret2
    exact ⟨rfl, rfl⟩
  · have h0 : ¬ s.size < 1 := by omega
    go_enter Try.func34, Try.ntmps34
    go_wp2
    go_ret2
    exact ⟨rfl, rfl⟩

set_option maxHeartbeats 400000 in
theorem cxCount_ok (x : Nat) (a b p : Int) (v : Value) (n m : Int) (L : List Do.Chg) (s : ByteArray) (w : World) (hl : L.length ≤ 60) (hd : ∀ c ∈ L, c.doc.size ≤ 40) (h1 : CodeAt w x a b p v n m) (h2 : OwnD w 0 v L) (hs : 1 ≤ s.size ∧ s.size ≤ 16) :
    Calls Try.prog 34 #[.pointer (some ⟨x, 0, none⟩), .string s] w fun e w' => e = .returned (.tuple #[.int .i64 ((Do.hits L s.data.toList).length : Int), .int .i64 0]) ∧ Below w.heap.size w w' := by
  have HB : Hid (Calls Try.prog 57 #[.pointer (some ⟨x, 3, none⟩), .string s] w fun e w' => e = .returned (.int .i64 ((Do.hits L s.data.toList).length : Int)) ∧ Below w.heap.size w w') := cCount_any x 0 v L s _ w rfl (by omega) hd hs h1.c3 h2
  obtain ⟨hs1, hs2⟩ := hs
  clear hd
  generalize (Do.hits L s.data.toList).length = z at *
  go_enter Try.func34, Try.ntmps34
  go_wp2_with fail
  refine HB.out.mono ?_
  rintro e w1 ⟨rfl, hb⟩
  go_wp2_with fail
  go_ret2
  exact ⟨rfl, hb⟩

set_option maxHeartbeats 400000 in
theorem cLocate_no (x : Nat) (s : ByteArray) (n i t : Int) (w : World) (h : s.size < 1 ∨ 16 < s.size) :
    Calls Try.prog 36 #[.pointer (some ⟨x, 0, none⟩), .string s, .int .i64 n, .int .i64 i, .int .i64 t] w fun e w' => e = .returned (.tuple #[.slice none 0 0, .bool false, .int .i64 5]) ∧ w' = w := by
  rcases h with h | h
  · have h0 : decide ((s.size : Int) < 1) = true := by rw [decide_eq_true_eq]; omega
    go_enter Try.func36, Try.ntmps36
    go_wp2
    go_ret3
    exact ⟨rfl, rfl⟩
  · have h0 : ¬ s.size < 1 := by omega
    go_enter Try.func36, Try.ntmps36
    go_wp2
    go_ret3
    exact ⟨rfl, rfl⟩

set_option maxHeartbeats 400000 in
theorem cLocate_stale (x : Nat) (a b p : Int) (v : Value) (N m : Int) (s : ByteArray) (n i t : Int) (w : World) (h1 : CodeAt w x a b p v N m) (hs : 1 ≤ s.size ∧ s.size ≤ 16) (hn : n ≠ m) :
    Calls Try.prog 36 #[.pointer (some ⟨x, 0, none⟩), .string s, .int .i64 n, .int .i64 i, .int .i64 t] w fun e w' => e = .returned (.tuple #[.slice none 0 0, .bool false, .int .i64 6]) ∧ w' = w := by
  obtain ⟨hs1, hs2⟩ := hs
  have c5 := h1.c5
  have hb : (n != m) = true := by rw [bne_iff_ne]; exact hn
  clear hn
  go_enter Try.func36, Try.ntmps36
  go_wp2
  go_ret3
  exact ⟨rfl, rfl⟩

theorem OwnO.cut {w : World} {B g cap n : Nat} {l : List Do.Oc} (h : OwnO w B (.slice (some ⟨g, 0, none⟩) l.length cap) l) (hn : n ≤ l.length) : OwnO w B (.slice (some ⟨g, 0, none⟩) n cap) (l.take n) := by
  have hlen : (l.take n).length = n := by rw [List.length_take]; omega
  rcases h.2 with ⟨h0, _⟩ | ⟨g', cap', cur, hv, hg, hh, hc, hcap, hsz, htake⟩
  · cases h0
  · cases hv
    unfold OwnO
    rw [hlen]
    have hoc : ∀ (q : List Do.Oc), (OC q).length = q.length * 2 := fun q => by
      induction q with
      | nil => rfl
      | cons a r ih => rw [OC, List.flatMap_cons, List.length_append]; show 2 + (OC r).length = _; rw [ih, List.length_cons]; omega
    refine ⟨by rw [hoc, hlen], .inr ⟨g, cap, cur, rfl, hg, hh, by omega, hcap, hsz, ?_⟩⟩
    have h3 : (cur.toList.take (l.length * 2)).take (n * 2) = (OC l).take (n * 2) := by rw [htake]
    rw [List.take_take, Nat.min_eq_left (by omega)] at h3
    rw [h3]
    have e : OC l = OC (l.take n) ++ OC (l.drop n) := by rw [← OC_append, List.take_append_drop]
    rw [e, List.take_left' (by rw [hoc, hlen])]

set_option maxHeartbeats 1000000 in
theorem cLocate_ok (x : Nat) (a b : Int) (p : Nat) (v : Value) (N m : Int) (L : List Do.Chg) (s : ByteArray) (i t : Int) (w : World) (hl : L.length ≤ 60) (hd : ∀ c ∈ L, c.doc.size ≤ 40) (h1 : CodeAt w x a b p v N m) (h2 : OwnD w 0 v L) (hp : 1 ≤ p ∧ p ≤ 8) (hs : 1 ≤ s.size ∧ s.size ≤ 16) :
    Calls Try.prog 36 #[.pointer (some ⟨x, 0, none⟩), .string s, .int .i64 m, .int .i64 i, .int .i64 t] w fun e w' => ∃ u, e = .returned (.tuple #[u, .bool (Do.page (Do.hits L s.data.toList) i t p).2, .int .i64 0]) ∧ OwnO w' w.heap.size u (Do.page (Do.hits L s.data.toList) i t p).1 ∧ Below w.heap.size w w' := by
  have HB : Hid (Calls Try.prog 58 #[.pointer (some ⟨x, 3, none⟩), .string s, .agg #[.int .i64 i, .int .i64 t], .int .i64 ((p : Int) + 1)] w.drew fun e w' => ∃ u, e = .returned u ∧ OwnO w' w.heap.size u (Do.firsts L s.data.toList i t (p + 1) L.length) ∧ Below w.heap.size w.drew w') := cHits_any x 0 v L s i t (p + 1) w.drew (by omega) hd hs (by omega) h1.c3 h2
  rw [Do.firsts_page]
  have hfl := Do.firsts_len L s.data.toList i t (p + 1) L.length
  obtain ⟨hs1, hs2⟩ := hs
  obtain ⟨hp1, hp2⟩ := hp
  clear hd
  generalize Do.firsts L s.data.toList i t (p + 1) L.length = M at *
  have c5 := h1.c5
  have c2 := h1.c2
  have hnb : (m != m) = false := by simp
  have hwr : IntKind.i64.wrap ((p : Int) + 1) = (p : Int) + 1 := by rw [IntKind.wrap_i64]; omega
  go_enter Try.func36, Try.ntmps36
  go_wp2_with fail
  refine wp_region_held_drew (S := fun w' => w'.cell? ⟨x, 2, none⟩ = some (.int .i64 (p : Int))) (by kernel_rfl) c2 (fun hHeld => ?_)
  refine wpAnyH_take (i := 0) (v := ?a0) rfl (by kernel_rfl) (by kernel_rfl) (by kernel_rfl) (fun _ _ _ h => h) (Or.inl ⟨by rfl, ?hya0⟩) (by assumption) ?resta0
  case hya0 => intro w hSw; (try dsimp only at hSw); go_simp; (try with_reducible rfl)
  simp only [Act.put]
  refine wpAnyH_take (i := 1) (v := ?a1) rfl (by kernel_rfl) (by kernel_rfl) (by kernel_rfl) (fun _ _ _ h => h) (Or.inl ⟨by rfl, ?hya1⟩) (by assumption) ?resta1
  case hya1 => intro w hSw; (try dsimp only at hSw); go_simp; (try with_reducible rfl)
  simp only [Act.put]
  refine wpAnyH_take (i := 2) (v := ?a2) rfl (by kernel_rfl) (by kernel_rfl) (by kernel_rfl) (fun _ _ _ h => h) (Or.inl ⟨by rfl, ?hya2⟩) (by assumption) ?resta2
  case hya2 => intro w hSw; (try dsimp only at hSw); go_simp; (try with_reducible rfl)
  simp only [Act.put]
  refine wpAnyH_take (i := 3) (v := ?a3) rfl (by kernel_rfl) (by kernel_rfl) (by kernel_rfl) (fun _ _ _ h => h) (Or.inl ⟨by rfl, ?hya3⟩) (by assumption) ?resta3
  case hya3 => intro w hSw; (try dsimp only at hSw); go_simp; (try with_reducible rfl)
  simp only [Act.put]
  refine wpAnyH_take (i := 4) (v := ?a4) rfl (by kernel_rfl) (by kernel_rfl) (by kernel_rfl) (fun _ _ _ h => h) (Or.inl ⟨by rfl, ?hya4⟩) (by assumption) ?resta4
  case hya4 => intro w hSw; (try dsimp only at hSw); go_simp; (try with_reducible rfl)
  simp only [Act.put]
  refine wpAnyH_take (i := 5) (v := ?a5) rfl (by kernel_rfl) (by kernel_rfl) (by kernel_rfl) (fun _ _ _ h => h) (Or.inl ⟨by rfl, ?hya5⟩) (by assumption) ?resta5
  case hya5 => intro w hSw; (try dsimp only at hSw); go_simp; (try with_reducible rfl)
  simp only [Act.put]
  refine wpAnyH_take (i := 6) (v := ?a6) rfl (by kernel_rfl) (by kernel_rfl) (by kernel_rfl) (fun _ _ _ h => h) (Or.inl ⟨by rfl, ?hya6⟩) (by assumption) ?resta6
  case hya6 => intro w hSw; (try dsimp only at hSw); go_simp; (try with_reducible rfl)
  simp only [Act.put]
  refine wpAnyH_take (i := 7) (v := ?a7) rfl (by kernel_rfl) (by kernel_rfl) (by kernel_rfl) (fun _ _ _ h => h) (Or.inl ⟨by rfl, ?hya7⟩) (by assumption) ?resta7
  case hya7 => intro w hSw; (try dsimp only at hSw); go_simp; (try with_reducible rfl)
  simp only [Act.put]
  refine wpAnyH_take (i := 8) (v := ?a8) rfl (by kernel_rfl) (by kernel_rfl) (by kernel_rfl) (fun _ _ _ h => h) (Or.inl ⟨by rfl, ?hya8⟩) (by assumption) ?resta8
  case hya8 => intro w hSw; (try dsimp only at hSw); go_simp; (try with_reducible rfl)
  simp only [Act.put]
  refine wpAnyH_take (i := 9) (v := ?a9) rfl (by kernel_rfl) (by kernel_rfl) (by kernel_rfl) (fun _ _ _ h => h) (Or.inl ⟨by rfl, ?hya9⟩) (by assumption) ?resta9
  case hya9 => intro w hSw; (try dsimp only at hSw); go_simp; (try with_reducible rfl)
  simp only [Act.put]
  refine wpAnyH_take (i := 10) (v := ?a10) rfl (by kernel_rfl) (by kernel_rfl) (by kernel_rfl) (fun _ _ _ h => h) (Or.inl ⟨by rfl, ?hya10⟩) (by assumption) ?resta10
  case hya10 => intro w hSw; (try dsimp only at hSw); go_simp; (try with_reducible rfl)
  simp only [Act.put]
  refine wpAnyH_take (i := 11) (v := ?a11) rfl (by kernel_rfl) (by kernel_rfl) (by kernel_rfl) (fun _ _ _ h => h) (Or.inl ⟨by rfl, ?hya11⟩) (by assumption) ?resta11
  case hya11 => intro w hSw; (try dsimp only at hSw); go_simp; (try with_reducible rfl)
  simp only [Act.put]
  refine wpAnyH_take (i := 12) (v := ?a12) rfl (by kernel_rfl) (by kernel_rfl) (by kernel_rfl) (fun _ _ _ h => h) (Or.inl ⟨by rfl, ?hya12⟩) (by assumption) ?resta12
  case hya12 => intro w hSw; (try dsimp only at hSw); go_simp; (try with_reducible rfl)
  simp only [Act.put]
  refine wpAnyH_ready (rs := [13]) (by kernel_rfl) (by simp) ?_
  refine AllReadyH.cons rfl (fun K hK => ?_) AllReadyH.nil
  go_simp
  refine HB.out.mono ?_
  rintro e w1 ⟨u, rfl, hu, hb'⟩
  have hb : Below w.heap.size w w1 := (Below.refl w.heap.size w).drew.trans hb'
  have c22 := (h1.below hb).c2
  refine hK.out _ _ c22 (fun hHeld => ?_)
  clear hK K hb' c5 c2 HB
  refine wpAnyH_take (i := 14) (v := ?b14) rfl (by kernel_rfl) (by kernel_rfl) (by kernel_rfl) (fun _ _ _ h => h) (Or.inl ⟨by rfl, ?hyb14⟩) (by assumption) ?restb14
  case hyb14 => intro w hSw; (try dsimp only at hSw); go_simp; (try with_reducible rfl)
  simp only [Act.put]
  refine wpAnyH_done (by kernel_rfl) ?_ _
  clear hHeld
  rcases hu.shape with ⟨rfl, rfl⟩ | ⟨g, cap, rfl, hg1, hg2⟩
  · have d1 : decide ((p : Int) < (0 : Int)) = false := by rw [decide_eq_false_iff_not]; omega
    go_wp2_with fail
    go_ret3
    refine ⟨.slice none 0 0, by simp, ?_, hb⟩
    rw [List.take_nil]; exact World.ownsRow_nil _ _ _ _
  · by_cases q : p < M.length
    · have d1 : decide ((p : Int) < (M.length : Int)) = true := by rw [decide_eq_true_eq]; omega
      have hcap : M.length ≤ cap := by
        rcases hu.2 with ⟨h0, _⟩ | ⟨g', cap', cur, hv, _, _, hc, _⟩
        · cases h0
        · cases hv; exact hc
      have HC : Hid (OwnO w1 w.heap.size (.slice (some ⟨g, 0, none⟩) p cap) (M.take p)) := hu.cut (by omega)
      have HD : Hid (decide (p < M.length) = true) := by show _ = _; rw [decide_eq_true_eq]; exact q
      go_wp2_with fail
      go_ret3
      refine ⟨_, ?_, HC.out, hb⟩
      rw [HD.out]; rfl
    · have d1 : decide ((p : Int) < (M.length : Int)) = false := by rw [decide_eq_false_iff_not]; omega
      have HC : Hid (M.take p = M) := List.take_of_length_le (by omega)
      have HD : Hid (decide (p < M.length) = false) := by show _ = _; rw [decide_eq_false_iff_not]; exact q
      go_wp2_with fail
      go_ret3
      refine ⟨_, ?_, by rw [HC.out]; exact hu, hb⟩
      rw [HD.out]; rfl

set_option maxHeartbeats 400000 in
theorem cList_arg (x : Nat) (t n : Int) (w : World) (h : n < 1 ∨ 8 < n) :
    Calls Try.prog 56 #[.pointer (some ⟨x, 0, none⟩), .int .i64 t, .int .i64 n] w fun e w' => e = .returned (.tuple #[.slice none 0 0, .int .i64 9]) ∧ w' = w := by
  rcases h with h | h
  · go_enter Try.func56, Try.ntmps56
    go_wp2
    go_ret2
    exact ⟨rfl, rfl⟩
  · have h0 : ¬ n < 1 := by omega
    go_enter Try.func56, Try.ntmps56
    go_wp2
    go_ret2
    exact ⟨rfl, rfl⟩

set_option maxHeartbeats 400000 in
theorem cList_ok (x : Nat) (a b p : Int) (v : Value) (N m : Int) (L : List Do.Chg) (t : Int) (n : Nat) (w : World) (hl : L.length ≤ 60) (h1 : CodeAt w x a b p v N m) (h2 : OwnD w 0 v L) (hn : 1 ≤ n ∧ n ≤ 8) :
    Calls Try.prog 56 #[.pointer (some ⟨x, 0, none⟩), .int .i64 t, .int .i64 (n : Int)] w fun e w' => ∃ u, e = .returned (.tuple #[u, .int .i64 0]) ∧ OwnV w' w.heap.size u (Do.ids L t n) ∧ Below w.heap.size w w' := by
  have HB : Hid (Calls Try.prog 75 #[.pointer (some ⟨x, 3, none⟩), .int .i64 t, .int .i64 (n : Int)] w fun e w' => ∃ u, e = .returned u ∧ OwnV w' w.heap.size u (Do.ids L t n) ∧ Below w.heap.size w w') := cIds_any x 0 v L t n w (by omega) hn h1.c3 h2
  have hn1 : decide ((n : Int) < 1) = false := by rw [decide_eq_false_iff_not]; omega
  have hn8 : decide ((8 : Int) < (n : Int)) = false := by rw [decide_eq_false_iff_not]; omega
  generalize Do.ids L t n = M at *
  go_enter Try.func56, Try.ntmps56
  go_wp2_with fail
  refine HB.out.mono ?_
  rintro e w1 ⟨u, rfl, hu, hb⟩
  go_wp2_with fail
  go_ret2
  exact ⟨_, rfl, hu, hb⟩

set_option maxHeartbeats 400000 in
theorem cVersion_any (x : Nat) (a b p : Int) (v : Value) (N m : Int) (w : World) (h1 : CodeAt w x a b p v N m) :
    Calls Try.prog 35 #[.pointer (some ⟨x, 0, none⟩)] w fun e w' => e = .returned (.int .i64 m) ∧ w' = w := by
  have c5 := h1.c5
  go_enter Try.func35, Try.ntmps35
  go_wp2
  go_ret
  exact ⟨rfl, rfl⟩

end Go.Proofs.Ytpikkedeoebiaaa
