/- Walks of the desk: told. -/
import Derived.Test.YtpikkedeoebiaabDeskE
namespace Go.Proofs.Ytpikkedeoebiaab
open Go.RowKit
set_option maxRecDepth 100000

/-- foliokeep's own look at a place -/
theorem kstand_any (s b : ByteArray) (k : Nat) (q : Bool) (h : Fo.pre s.data.toList b.data.toList k = q) (w : World) (hs : s.size ≤ 1000) (hk : k ≤ s.size) (hb : b.size ≤ 1000) :
    Calls Try.prog 20 #[.string s, .int .i64 (k : Int), .string b] w fun e w' => e = .returned (.bool q) ∧ w' = w := by
  subst h
  by_cases hlen : s.size < k + b.size
  · have HB : Hid (Fo.pre s.data.toList b.data.toList k = false) := by
      rcases Fo.pre_short s.data.toList b.data.toList k (by rw [size_len, size_len]; exact hlen) with h | h
      · exact h
      · have : b.size = 0 := by rw [← size_len, h]; rfl
        omega
    have hd : decide ((k : Int) + (b.size : Int) ≤ (s.size : Int)) = false := by rw [decide_eq_false_iff_not]; omega
    rw [HB.out]
    go_enter Try.func20, Try.ntmps20
    go_wp2
    go_ret
    exact ⟨rfl, rfl⟩
  · have HB : Hid (Fo.pre s.data.toList b.data.toList k = ((s.extract k (k + b.size)).toList == b.toList)) := pre_at s b k
    have hd : decide ((k : Int) + (b.size : Int) ≤ (s.size : Int)) = true := by rw [decide_eq_true_eq]; omega
    rw [HB.out]
    go_enter Try.func20, Try.ntmps20
    go_wp2
    go_ret
    exact ⟨rfl, rfl⟩

section
variable {M : Nat} {At : World → Nat → Int → Int → Int → List Do.Chg → (Nat → Prop) → Prop} {w w' : World} {dk x : Nat} {a b p : Int} {cs : List Do.Chg} {mv : Int} {vi vd : Value} {F G : Nat → Prop}

theorem hits_at (L : List Do.Chg) (q : List UInt8) (i : Nat) (c : Do.Chg) (hc : L[i]? = some c) (k : Nat) (hk : k ≤ c.doc.size) : ∃ r, Do.hits L q = (Do.hitsTo L q i ++ Do.hitsIn c q k) ++ r := by
  have hi : i < L.length := by
    rcases Nat.lt_or_ge i L.length with h | h
    · exact h
    · rw [List.getElem?_eq_none h] at hc; cases hc
  obtain ⟨d, hd⟩ := Nat.le.dest hk
  obtain ⟨r1, hr1⟩ := Do.hitsIn_prefix c q k d
  rw [hd] at hr1
  have step : ∀ n, ∃ r, Do.hitsTo L q (i + 1 + n) = (Do.hitsTo L q i ++ Do.hitsIn c q k) ++ r := by
    intro n
    induction n with
    | zero => exact ⟨r1, by rw [Nat.add_zero, Do.hitsTo_succ L q i c hc, hr1, List.append_assoc]⟩
    | succ n ih =>
      obtain ⟨r, hr⟩ := ih
      rw [← Nat.add_assoc, Do.hitsTo, hr, List.append_assoc]
      exact ⟨_, rfl⟩
  obtain ⟨n, hn⟩ := Nat.le.dest (show i + 1 ≤ L.length by omega)
  obtain ⟨r, hr⟩ := step n
  rw [hn] at hr
  exact ⟨r, hr⟩

set_option maxHeartbeats 2000000 in
theorem dTold_in (s : ByteArray) (B : Nat) (u : Value) (hs : 1 ≤ s.size ∧ s.size ≤ 16) (h : DeskIn At w dk x a b p cs mv vi vd F G) (hu : OwnO w B u (Do.hits (Do.there cs) s.data.toList)) :
    Calls Try.prog 12 #[.pointer (some ⟨dk, 0, none⟩), .string s, u] w fun e w' => e = .returned (.bool true) ∧ Below w.heap.size w w' := by
  obtain ⟨al, cl, rfl, hlc⟩ := hu.any
  obtain ⟨ai, ci, hvi, hri⟩ := row_any h.ri
  obtain ⟨ad, cd, hvd, hrd⟩ := row_any h.rd
  have c4 := h.blk.c4
  have c5 := h.blk.c5
  rw [hvi] at c4
  rw [hvd] at c5
  have hfew := h.fair.few
  have HD : Hid (∀ c ∈ Do.there cs, c.doc.size ≤ 40) := h.fair.docs
  have hHs : (Do.hits (Do.there cs) s.data.toList).length ≤ 2400 := by
    have h1 := Do.hitsTo_len (Do.there cs) s.data.toList h.fair.docs (Do.there cs).length
    show (Do.hitsTo _ _ _).length ≤ _
    omega
  have HLC : Hid (∀ k o, (Do.hits (Do.there cs) s.data.toList)[k]? = some o → ∃ g, al = some ⟨g, 0, none⟩ ∧ w.cell? ⟨g, k * 2, none⟩ = some (.int .i64 (o.id : Int)) ∧ w.cell? ⟨g, k * 2 + 1, none⟩ = some (.int .i64 (o.at' : Int))) := hlc
  have HRI : Hid (∀ k c, (Do.there cs)[k]? = some c → ∃ g, ai = some ⟨g, 0, none⟩ ∧ w.cell? ⟨g, k, none⟩ = some (.int .i64 (c.id : Int))) := fun k c hc => hri k _ (by simp [ID, hc])
  have HRD : Hid (∀ k c, (Do.there cs)[k]? = some c → ∃ g, ad = some ⟨g, 0, none⟩ ∧ w.cell? ⟨g, k, none⟩ = some (.string c.doc)) := fun k c hc => hrd k _ (by simp [SD, hc])
  clear h hu hlc hri hrd hvi hvd
  generalize Do.there cs = L at *
  go_enter Try.func12, Try.ntmps12
  go_wp2_with fail
  go_loopw [7, 8] (fun kk i' wr => ∃ i : Nat, i ≤ L.length ∧ i' = .int .i64 i ∧ kk = .int .i64 ((Do.hitsTo L s.data.toList i).length : Nat) ∧ ∃ m, wr = w.drewN m) (fun _ i' _ => L.length - (intOf i').toNat)
  case atStart => exact ⟨0, Nat.zero_le _, rfl, rfl, 0, rfl⟩
  case round =>
    obtain ⟨i, hi, rfl, rfl, m, rfl⟩ := hrel
    have hkl := Do.hitsTo_len L s.data.toList HD.out i
    by_cases hlt : i < L.length
    · obtain ⟨c, hc⟩ : ∃ c, L[i]? = some c := ⟨L[i], List.getElem?_eq_getElem hlt⟩
      obtain ⟨gi, rfl, e4⟩ := HRI.out i c hc
      obtain ⟨gd, rfl, e5⟩ := HRD.out i c hc
      have hcd := HD.out c (List.mem_of_getElem? hc)
      have HSU : Hid (Do.hitsTo L s.data.toList (i + 1) = Do.hitsTo L s.data.toList i ++ Do.hitsIn c s.data.toList c.doc.size) := Do.hitsTo_succ L _ i c hc
      have HAT : Hid (∀ j, j < c.doc.size → Fo.pre c.doc.data.toList s.data.toList j = true → (Do.hits L s.data.toList)[(Do.hitsTo L s.data.toList i ++ Do.hitsIn c s.data.toList j).length]? = some ⟨c.id, j⟩) := fun j hj hp => by
        obtain ⟨r, hr⟩ := hits_at L s.data.toList i c hc (j + 1) hj
        rw [hr, Do.hitsIn_hit c _ j hp, ← List.append_assoc, List.append_assoc _ [_] r, List.getElem?_append_right (Nat.le_refl _), Nat.sub_self]
        rfl
      clear hc
      go_wp2_with fail
      go_loopw [7, 9] (fun kk a' wr => ∃ j : Nat, j ≤ c.doc.size ∧ a' = .int .i64 j ∧ kk = .int .i64 ((Do.hitsTo L s.data.toList i ++ Do.hitsIn c s.data.toList j).length : Nat) ∧ ∃ m, wr = w.drewN m) (fun _ a' _ => c.doc.size - (intOf a').toNat)
      case atStart => exact ⟨0, Nat.zero_le _, rfl, by rw [Do.hitsIn, List.append_nil], m, rfl⟩
      case round =>
        obtain ⟨j, hj, rfl, rfl, m2, rfl⟩ := hrel
        have hjl := Do.hitsIn_len c s.data.toList j
        have hal : (Do.hitsTo L s.data.toList i ++ Do.hitsIn c s.data.toList j).length ≤ 40 * i + 40 := by rw [List.length_append]; omega
        by_cases hjd : j < c.doc.size
        · obtain ⟨q, hq⟩ : ∃ q, Fo.pre c.doc.data.toList s.data.toList j = q := ⟨_, rfl⟩
          have HST : Hid (∀ W, Calls Try.prog 20 #[.string c.doc, .int .i64 (j : Int), .string s] W fun e w' => e = .returned (.bool q) ∧ w' = W) := fun W => kstand_any c.doc s j q hq W (by omega) (by omega) (by omega)
          cases q
          · have HN : Hid ((Do.hitsTo L s.data.toList i ++ Do.hitsIn c s.data.toList (j + 1)).length = (Do.hitsTo L s.data.toList i ++ Do.hitsIn c s.data.toList j).length) := by show _ = _; rw [Do.hitsIn_miss c _ j hq]
            clear hq HAT HSU
            generalize (Do.hitsTo L s.data.toList i ++ Do.hitsIn c s.data.toList j).length = kn at *
            go_wp2_with fail
            refine (HST.out _).mono ?_
            rintro e w5 ⟨rfl, hw5⟩; rw [hw5]; clear hw5
            go_wp2_with fail
            exact ⟨⟨j + 1, by omega, by go_num, by rw [HN.out], m2, rfl⟩, by simp [intOf]; omega⟩
          · have HN : Hid ((Do.hitsTo L s.data.toList i ++ Do.hitsIn c s.data.toList (j + 1)).length = (Do.hitsTo L s.data.toList i ++ Do.hitsIn c s.data.toList j).length + 1) := by show _ = _; rw [Do.hitsIn_hit c _ j hq, ← List.append_assoc, List.length_append]; rfl
            have hat := HAT.out j hjd hq
            have hklt : (Do.hitsTo L s.data.toList i ++ Do.hitsIn c s.data.toList j).length < (Do.hits L s.data.toList).length := by
              rcases Nat.lt_or_ge (Do.hitsTo L s.data.toList i ++ Do.hitsIn c s.data.toList j).length (Do.hits L s.data.toList).length with h | h
              · exact h
              · rw [List.getElem?_eq_none h] at hat; cases hat
            obtain ⟨gl, rfl, e1, e2⟩ := HLC.out _ _ hat
            dsimp only at e1 e2
            have n1' : ((c.id : Int) != (c.id : Int)) = false := by simp
            have n2' : ((j : Int) != (j : Int)) = false := by simp
            clear hq HAT HSU hat HLC
            generalize (Do.hitsTo L s.data.toList i ++ Do.hitsIn c s.data.toList j).length = kn at *
            generalize (Do.hits L s.data.toList).length = hn at *
            have dk1 : decide ((hn : Int) ≤ (kn : Int)) = false := by rw [decide_eq_false_iff_not]; omega
            go_wp2_with fail
            refine (HST.out _).mono ?_
            rintro e w5 ⟨rfl, hw5⟩; rw [hw5]; clear hw5
            go_wp2_with fail
            go_quiet (fail)
            go_wp2
            go_roundw
            case rel => exact ⟨j + 1, by omega, by go_num, by rw [HN.out]; go_num, _, rfl⟩
            case measure => simp [intOf]; omega
        · have hje : j = c.doc.size := by omega
          subst hje
          have HN : Hid ((Do.hitsTo L s.data.toList (i + 1)).length = (Do.hitsTo L s.data.toList i ++ Do.hitsIn c s.data.toList c.doc.size).length) := by show _ = _; rw [HSU.out]
          clear HSU HAT
          generalize (Do.hitsTo L s.data.toList i ++ Do.hitsIn c s.data.toList c.doc.size).length = kn at *
          go_wp2
          go_roundw
          case rel => exact ⟨i + 1, by omega, by go_num, by rw [HN.out], _, rfl⟩
          case measure => simp [intOf]; omega
    · have hke : i = L.length := by omega
      subst hke
      have hee : (((Do.hitsTo L s.data.toList L.length).length : Int) == ((Do.hits L s.data.toList).length : Int)) = true := by rw [beq_iff_eq]; rfl
      go_wp2
      go_ret
      exact ⟨by first | rfl | (rw [hee]), below_drewN (Below.refl _ _) _⟩

theorem dTold_any (s : ByteArray) (B : Nat) (u : Value) (hs : 1 ≤ s.size ∧ s.size ≤ 16) (h : Desk At w dk a b p cs mv G) (hu : OwnO w B u (Do.hits (Do.there cs) s.data.toList)) :
    Calls Try.prog 12 #[.pointer (some ⟨dk, 0, none⟩), .string s, u] w fun e w' => e = .returned (.bool true) ∧ Below w.heap.size w w' := by
  obtain ⟨x, vi, vd, F, h⟩ := h
  exact dTold_in s B u hs h hu
end

end Go.Proofs.Ytpikkedeoebiaab
