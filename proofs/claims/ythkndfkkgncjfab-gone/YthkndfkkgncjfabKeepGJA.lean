/- DeskG, KeepG. -/
import Derived.Test.YthkndfkkgncjfabKeepAJA
namespace Go.Proofs.Ythkndfkkgncjfab
open Go.RowKit
set_option maxRecDepth 100000

/-- foliokeep's own look at a place -/
theorem kstand_any (s b : ByteArray) (k : Nat) (q : Bool) (h : Fo.pre s.data.toList b.data.toList k = q) (w : World) (hs : s.size ≤ 1000) (hk : k ≤ s.size) (hb : b.size ≤ 1000) :
    Calls Try.prog 22 #[.string s, .int .i64 (k : Int), .string b] w fun e w' => e = .returned (.bool q) ∧ w' = w := by
  subst h
  by_cases hlen : s.size < k + b.size
  · have HB : Hid (Fo.pre s.data.toList b.data.toList k = false) := by
      rcases Fo.pre_short s.data.toList b.data.toList k (by rw [size_len, size_len]; exact hlen) with h | h
      · exact h
      · have : b.size = 0 := by rw [← size_len, h]; rfl
        omega
    have hd : decide ((k : Int) + (b.size : Int) ≤ (s.size : Int)) = false := by rw [decide_eq_false_iff_not]; omega
    rw [HB.out]
    go_enter Try.func22, Try.ntmps22
    go_wp2
    go_ret
    exact ⟨rfl, rfl⟩
  · have HB : Hid (Fo.pre s.data.toList b.data.toList k = ((s.extract k (k + b.size)).toList == b.toList)) := pre_at s b k
    have hd : decide ((k : Int) + (b.size : Int) ≤ (s.size : Int)) = true := by rw [decide_eq_true_eq]; omega
    rw [HB.out]
    go_enter Try.func22, Try.ntmps22
    go_wp2
    go_ret
    exact ⟨rfl, rfl⟩

section
variable {M : Nat} {At : World → Nat → Int → Int → Int → List Do.Chg → (Nat → Prop) → Prop} {w w' : World} {dk x : Nat} {a b p : Int} {cs : List Do.Chg} {mv : Int} {vi vd : Value} {F G : Nat → Prop}

theorem hits_at (L : List Do.Chg) (q : List UInt8) (i : Nat) (c : Do.Chg) (hc : L[i]? = some c) (k : Nat) (hk : k ≤ c.doc.size) : ∃ r, Do.hits L q = (Do.hitsTo L q i ++ Do.hitsIn c q k) ++ r := by
  have hi : i < L.length := by
    rcases Nat.lt_or_ge i L.length with h | h
    · exact h
    · rw [List.getElem?_eq_none h] at hc; cases hc
  obtain ⟨d, hd⟩ := Nat.le.dest hk
  obtain ⟨r1, hr1⟩ := Do.hitsIn_prefix c q k d
  rw [hd] at hr1
  have step : ∀ n, ∃ r, Do.hitsTo L q (i + 1 + n) = (Do.hitsTo L q i ++ Do.hitsIn c q k) ++ r := by
    intro n
    induction n with
    | zero => exact ⟨r1, by rw [Nat.add_zero, Do.hitsTo_succ L q i c hc, hr1, List.append_assoc]⟩
    | succ n ih =>
      obtain ⟨r, hr⟩ := ih
      rw [← Nat.add_assoc, Do.hitsTo, hr, List.append_assoc]
      exact ⟨_, rfl⟩
  obtain ⟨n, hn⟩ := Nat.le.dest (show i + 1 ≤ L.length by omega)
  obtain ⟨r, hr⟩ := step n
  rw [hn] at hr
  exact ⟨r, hr⟩

set_option maxHeartbeats 2000000 in
theorem dTold_in (s : ByteArray) (B : Nat) (u : Value) (hs : 1 ≤ s.size ∧ s.size ≤ 16) (h : DeskIn At w dk x a b p cs mv vi vd F G) (hu : OwnO w B u (Do.hits (Do.there cs) s.data.toList)) :
    Calls Try.prog 13 #[.pointer (some ⟨dk, 0, none⟩), .string s, u] w fun e w' => e = .returned (.bool true) ∧ Below w.heap.size w w' := by
  obtain ⟨al, cl, rfl, hlc⟩ := hu.any
  obtain ⟨ai, ci, hvi, hri⟩ := row_any h.ri
  obtain ⟨ad, cd, hvd, hrd⟩ := row_any h.rd
  have c4 := h.blk.c4
  have c5 := h.blk.c5
  rw [hvi] at c4
  rw [hvd] at c5
  have hfew := h.fair.few
  have HD : Hid (∀ c ∈ Do.there cs, c.doc.size ≤ 40) := h.fair.docs
  have hHs : (Do.hits (Do.there cs) s.data.toList).length ≤ 2400 := by
    have h1 := Do.hitsTo_len (Do.there cs) s.data.toList h.fair.docs (Do.there cs).length
    show (Do.hitsTo _ _ _).length ≤ _
    omega
  have HLC : Hid (∀ k o, (Do.hits (Do.there cs) s.data.toList)[k]? = some o → ∃ g, al = some ⟨g, 0, none⟩ ∧ w.cell? ⟨g, k * 2, none⟩ = some (.int .i64 (o.id : Int)) ∧ w.cell? ⟨g, k * 2 + 1, none⟩ = some (.int .i64 (o.at' : Int))) := hlc
  have HRI : Hid (∀ k c, (Do.there cs)[k]? = some c → ∃ g, ai = some ⟨g, 0, none⟩ ∧ w.cell? ⟨g, k, none⟩ = some (.int .i64 (c.id : Int))) := fun k c hc => hri k _ (by simp [ID, hc])
  have HRD : Hid (∀ k c, (Do.there cs)[k]? = some c → ∃ g, ad = some ⟨g, 0, none⟩ ∧ w.cell? ⟨g, k, none⟩ = some (.string c.doc)) := fun k c hc => hrd k _ (by simp [SD, hc])
  clear h hu hlc hri hrd hvi hvd
  generalize Do.there cs = L at *
  go_enter Try.func13, Try.ntmps13
  go_wp2_with fail
  go_loopw [7, 8] (fun kk i' wr => ∃ i : Nat, i ≤ L.length ∧ i' = .int .i64 i ∧ kk = .int .i64 ((Do.hitsTo L s.data.toList i).length : Nat) ∧ ∃ m, wr = w.drewN m) (fun _ i' _ => L.length - (intOf i').toNat)
  case atStart => exact ⟨0, Nat.zero_le _, rfl, rfl, 0, rfl⟩
  case round =>
    obtain ⟨i, hi, rfl, rfl, m, rfl⟩ := hrel
    have hkl := Do.hitsTo_len L s.data.toList HD.out i
    by_cases hlt : i < L.length
    · obtain ⟨c, hc⟩ : ∃ c, L[i]? = some c := ⟨L[i], List.getElem?_eq_getElem hlt⟩
      obtain ⟨gi, rfl, e4⟩ := HRI.out i c hc
      obtain ⟨gd, rfl, e5⟩ := HRD.out i c hc
      have hcd := HD.out c (List.mem_of_getElem? hc)
      have HSU : Hid (Do.hitsTo L s.data.toList (i + 1) = Do.hitsTo L s.data.toList i ++ Do.hitsIn c s.data.toList c.doc.size) := Do.hitsTo_succ L _ i c hc
      have HAT : Hid (∀ j, j < c.doc.size → Fo.pre c.doc.data.toList s.data.toList j = true → (Do.hits L s.data.toList)[(Do.hitsTo L s.data.toList i ++ Do.hitsIn c s.data.toList j).length]? = some ⟨c.id, j⟩) := fun j hj hp => by
        obtain ⟨r, hr⟩ := hits_at L s.data.toList i c hc (j + 1) hj
        rw [hr, Do.hitsIn_hit c _ j hp, ← List.append_assoc, List.append_assoc _ [_] r, List.getElem?_append_right (Nat.le_refl _), Nat.sub_self]
        rfl
      clear hc
      go_wp2_with fail
      go_loopw [7, 9] (fun kk a' wr => ∃ j : Nat, j ≤ c.doc.size ∧ a' = .int .i64 j ∧ kk = .int .i64 ((Do.hitsTo L s.data.toList i ++ Do.hitsIn c s.data.toList j).length : Nat) ∧ ∃ m, wr = w.drewN m) (fun _ a' _ => c.doc.size - (intOf a').toNat)
      case atStart => exact ⟨0, Nat.zero_le _, rfl, by rw [Do.hitsIn, List.append_nil], m, rfl⟩
      case round =>
        obtain ⟨j, hj, rfl, rfl, m2, rfl⟩ := hrel
        have hjl := Do.hitsIn_len c s.data.toList j
        have hal : (Do.hitsTo L s.data.toList i ++ Do.hitsIn c s.data.toList j).length ≤ 40 * i + 40 := by rw [List.length_append]; omega
        by_cases hjd : j < c.doc.size
        · obtain ⟨q, hq⟩ : ∃ q, Fo.pre c.doc.data.toList s.data.toList j = q := ⟨_, rfl⟩
          have HST : Hid (∀ W, Calls Try.prog 22 #[.string c.doc, .int .i64 (j : Int), .string s] W fun e w' => e = .returned (.bool q) ∧ w' = W) := fun W => kstand_any c.doc s j q hq W (by omega) (by omega) (by omega)
          cases q
          · have HN : Hid ((Do.hitsTo L s.data.toList i ++ Do.hitsIn c s.data.toList (j + 1)).length = (Do.hitsTo L s.data.toList i ++ Do.hitsIn c s.data.toList j).length) := by show _ = _; rw [Do.hitsIn_miss c _ j hq]
            clear hq HAT HSU
            generalize (Do.hitsTo L s.data.toList i ++ Do.hitsIn c s.data.toList j).length = kn at *
            go_wp2_with fail
            refine (HST.out _).mono ?_
            rintro e w5 ⟨rfl, hw5⟩; rw [hw5]; clear hw5
            go_wp2_with fail
            exact ⟨⟨j + 1, by omega, by go_num, by rw [HN.out], m2, rfl⟩, by simp [intOf]; omega⟩
          · have HN : Hid ((Do.hitsTo L s.data.toList i ++ Do.hitsIn c s.data.toList (j + 1)).length = (Do.hitsTo L s.data.toList i ++ Do.hitsIn c s.data.toList j).length + 1) := by show _ = _; rw [Do.hitsIn_hit c _ j hq, ← List.append_assoc, List.length_append]; rfl
            have hat := HAT.out j hjd hq
            have hklt : (Do.hitsTo L s.data.toList i ++ Do.hitsIn c s.data.toList j).length < (Do.hits L s.data.toList).length := by
              rcases Nat.lt_or_ge (Do.hitsTo L s.data.toList i ++ Do.hitsIn c s.data.toList j).length (Do.hits L s.data.toList).length with h | h
              · exact h
              · rw [List.getElem?_eq_none h] at hat; cases hat
            obtain ⟨gl, rfl, e1, e2⟩ := HLC.out _ _ hat
            dsimp only at e1 e2
            have n1' : ((c.id : Int) != (c.id : Int)) = false := by simp
            have n2' : ((j : Int) != (j : Int)) = false := by simp
            clear hq HAT HSU hat HLC
            generalize (Do.hitsTo L s.data.toList i ++ Do.hitsIn c s.data.toList j).length = kn at *
            generalize (Do.hits L s.data.toList).length = hn at *
            have dk1 : decide ((hn : Int) ≤ (kn : Int)) = false := by rw [decide_eq_false_iff_not]; omega
            go_wp2_with fail
            refine (HST.out _).mono ?_
            rintro e w5 ⟨rfl, hw5⟩; rw [hw5]; clear hw5
            go_wp2_with fail
            go_quiet (fail)
            go_wp2
            go_roundw
            case rel => exact ⟨j + 1, by omega, by go_num, by rw [HN.out]; go_num, _, rfl⟩
            case measure => simp [intOf]; omega
        · have hje : j = c.doc.size := by omega
          subst hje
          have HN : Hid ((Do.hitsTo L s.data.toList (i + 1)).length = (Do.hitsTo L s.data.toList i ++ Do.hitsIn c s.data.toList c.doc.size).length) := by show _ = _; rw [HSU.out]
          clear HSU HAT
          generalize (Do.hitsTo L s.data.toList i ++ Do.hitsIn c s.data.toList c.doc.size).length = kn at *
          go_wp2
          go_roundw
          case rel => exact ⟨i + 1, by omega, by go_num, by rw [HN.out], _, rfl⟩
          case measure => simp [intOf]; omega
    · have hke : i = L.length := by omega
      subst hke
      have hee : (((Do.hitsTo L s.data.toList L.length).length : Int) == ((Do.hits L s.data.toList).length : Int)) = true := by rw [beq_iff_eq]; rfl
      go_wp2
      go_ret
      exact ⟨by first | rfl | (rw [hee]), below_drewN (Below.refl _ _) _⟩

theorem dTold_any (s : ByteArray) (B : Nat) (u : Value) (hs : 1 ≤ s.size ∧ s.size ≤ 16) (h : Desk At w dk a b p cs mv G) (hu : OwnO w B u (Do.hits (Do.there cs) s.data.toList)) :
    Calls Try.prog 13 #[.pointer (some ⟨dk, 0, none⟩), .string s, u] w fun e w' => e = .returned (.bool true) ∧ Below w.heap.size w w' := by
  obtain ⟨x, vi, vd, F, h⟩ := h
  exact dTold_in s B u hs h hu
end

end Go.Proofs.Ythkndfkkgncjfab

namespace Go.Proofs.Ythkndfkkgncjfab
open Go.RowKit
set_option maxRecDepth 100000

/-- a pattern: the first bytes of the text, or the byte 97 -/
def pat (s : ByteArray) : ByteArray := if (cut s 16).size = 0 then ⟨#[97]⟩ else cut s 16
theorem pat_size (s : ByteArray) : 1 ≤ (pat s).size ∧ (pat s).size ≤ 16 := by
  have h := cut_size s 16
  unfold pat
  split
  · exact ⟨Nat.le_refl _, by decide⟩
  · omega
theorem list_empty (x : ByteArray) : x.toList.isEmpty = decide (x.size = 0) := by
  rw [ByteArray.toList_eq]
  have h := size_len x
  cases hx : x.data.toList with
  | nil => rw [hx] at h; simp at h; rw [← h]; rfl
  | cons a r => rw [hx] at h; simp at h; rw [← h]; rfl

section
variable {M : Nat} {At : World → Nat → Int → Int → Int → List Do.Chg → (Nat → Prop) → Prop}

theorem one_step {B dk : Nat} {w w1 : World} {a b p : Int} {cs' : List Do.Chg} {mv' : Int} {G : Nat → Prop} (hB : B ≤ w.heap.size) (hG : ∀ k, G k → B ≤ k) (hm : Moved At dk a b p cs' mv' G w w1) : (∃ G', Desk At w1 dk a b p cs' mv' G' ∧ ∀ k, G' k → B ≤ k) ∧ Below B w w1 := by
  obtain ⟨ho, G', hd, hk⟩ := hm
  exact ⟨⟨G', hd, fun k h => (hk k h).elim (hG k) (fun h => by omega)⟩, ho.os, ho.tape, ho.output, ho.size, fun k hk' => ho.block k (by omega) (fun h => by have := hG k h; omega)⟩

/-- what came and went again leaves what was -/
theorem came_went (cs : List Do.Chg) (hf : Fair cs) (s : ByteArray) : Do.there (delRes (cs ++ [⟨true, s, insTo cs cs.length⟩]) ((insTo cs cs.length : Nat) : Int)).2 = Do.there cs ∧ (delRes (cs ++ [⟨true, s, insTo cs cs.length⟩]) ((insTo cs cs.length : Nat) : Int)).2.length = cs.length + 2 := by
  have hth : Do.there (cs ++ [⟨true, s, insTo cs cs.length⟩]) = Do.there cs ++ [⟨true, s, insTo cs cs.length⟩] := Do.there_ins _ _ rfl
  refine ⟨?_, ?_⟩
  · rw [delRes_there, hth]
    unfold Do.without
    rw [List.take_length, List.filter_append]
    have e1 : (Do.there cs).filter (fun d => !((d.id : Int) == ((insTo cs cs.length : Nat) : Int))) = Do.there cs := by
      rw [List.filter_eq_self]
      intro c hc
      have := hf.next c hc
      have h1 : ¬ (c.id : Int) = ((insTo cs cs.length : Nat) : Int) := by omega
      rw [beq_eq_false_iff_ne.2 h1]; rfl
    rw [e1]; simp
  · unfold delRes
    have hat : Do.at? (Do.there (cs ++ [⟨true, s, insTo cs cs.length⟩])) ((insTo cs cs.length : Nat) : Int) = some (Do.there cs).length := by
      rw [hth]
      refine Do.at_some _ _ _ ⟨true, s, insTo cs cs.length⟩ (by simp) (by simp) fun j d hj hd => ?_
      rw [List.getElem?_append_left hj] at hd
      have := hf.next d (List.mem_of_getElem? hd)
      rw [beq_eq_false_iff_ne]; omega
    rw [hat]
    simp only [hth]
    rw [List.getElem?_append_right (Nat.le_refl _), Nat.sub_self]
    simp

set_option maxHeartbeats 40000000 in
theorem gone_law (hC : Keeps M At 28 21 23 60 62 20 58 11) (hM : M ≤ 9000000000000000) (a b p : Int) (ha : inR a) (hb : inR b) (hp : inR p) (sv : Value) (len : Nat) (os : Nat → StV) (dc s : ByteArray) (hdc : dc.size ≤ 9223372036854775807) (hs : s.size ≤ 9223372036854775807) (w : World) (hsc : Steps3 w sv len os) (hlen : len + 2 < M) :
    Calls Try.prog 3 #[.agg #[.int .i64 a, .int .i64 b, .int .i64 p], sv, .string dc, .string s] w fun e w' => e = .returned (.bool true) ∧ Below w.heap.size w w' := by
  obtain ⟨a0, cap, rfl, hst⟩ := hsc
  have HST : Hid (∀ k, k < len → ∃ gb off, a0 = some ⟨gb, off, none⟩ ∧ (os k).ok ∧ ∀ j u, (stCells (os k))[j]? = some u → w.cell? ⟨gb, off + k * 3 + j, none⟩ = some u) := hst
  clear hst
  go_enter Try.func3, Try.ntmps3
  go_wp2_with fail
  have hb0 : Below w.heap.size w (w.alloc (.cells #[.int .i64 a, .int .i64 b, .int .i64 p] 23)) := (Below.refl _ _).alloc (Nat.le_refl _) _
  have hs0 : (w.alloc (.cells #[.int .i64 a, .int .i64 b, .int .i64 p] 23)).heap.size = w.heap.size + 1 := by simp
  generalize w.alloc (.cells #[.int .i64 a, .int .i64 b, .int .i64 p] 23) = w0 at *
  refine (kseated_any hC a b p ha hb hp _).mono ?_
  rintro e w1 ⟨dk, G, rfl, hd, hG, hb1⟩
  have s1 := hb1.size
  have HD0 : Hid (∃ mv G, Desk At w1 dk (cA a) (cB b) (cP p) (csAt (cA a) os 0) mv G ∧ ∀ k, G k → w.heap.size ≤ k) := ⟨0, G, hd, fun k hk => by have := hG k hk; omega⟩
  have HB1 : Hid (Below w.heap.size w w1) := hb0.trans (hb1.mono (by omega))
  clear hd hG hb0 hb1
  generalize cA a = A at *
  generalize cB b = b1 at *
  generalize cP p = p1 at *
  go_wp2_with fail
  go_loopw [10] (fun i wr => ∃ k : Nat, k ≤ len ∧ i = .int .i64 k ∧ (∃ mv G, Desk At wr dk A b1 p1 (csAt A os k) mv G ∧ ∀ k, G k → w.heap.size ≤ k) ∧ Below w.heap.size w wr) (fun i _ => len - (intOf i).toNat)
  case atStart => exact ⟨0, Nat.zero_le _, rfl, HD0.out, HB1.out⟩
  case round =>
    obtain ⟨k, hk, rfl, hdd, hbw⟩ := hrel
    clear HD0 HB1
    have hcl := csAt_len A os k
    have sw := hbw.size
    obtain ⟨mv, G1, hd, hG⟩ := hdd
    by_cases hlt : k < len
    · obtain ⟨gb, off, rfl, hok, hcs⟩ := HST.out k hlt
      have hal : gb < w.heap.size := World.block_lt_of_cell? w ⟨gb, off + k * 3 + 0, none⟩ (hcs 0 _ rfl)
      have y0 : wr.cell? ⟨gb, off + k * 3, none⟩ = some (.int .i64 (os k).k) := (hbw.cell (p := ⟨gb, off + k * 3 + 0, none⟩) hal).trans (hcs 0 _ rfl)
      have y1 : wr.cell? ⟨gb, off + k * 3 + 1, none⟩ = some (.int .i64 (os k).a) := (hbw.cell (p := ⟨gb, off + k * 3 + 1, none⟩) hal).trans (hcs 1 _ rfl)
      have y2 : wr.cell? ⟨gb, off + k * 3 + 2, none⟩ = some (.string (os k).s) := (hbw.cell (p := ⟨gb, off + k * 3 + 2, none⟩) hal).trans (hcs 2 _ rfl)
      have HS1 : Hid (Calls Try.prog 8 #[.pointer (some ⟨dk, 0, none⟩), .agg #[.int .i64 (os k).k, .int .i64 (os k).a, .string (os k).s]] wr fun e w' => e = .returned (.bool true) ∧ ∃ mv', Moved At dk A b1 p1 (csAt A os (k + 1)) mv' G1 wr w') := dStep_any hC (os k) hok (by omega) hM hd
      clear hcs hd
      go_wp2_with fail
      refine HS1.out.mono ?_
      rintro e wa ⟨rfl, mv1, hmo⟩
      obtain ⟨hd2, hb2⟩ := one_step sw hG hmo
      have HN : Hid (∃ mv G, Desk At wa dk A b1 p1 (csAt A os (k + 1)) mv G ∧ ∀ k, G k → w.heap.size ≤ k) := by
        obtain ⟨G2, q1, q2⟩ := hd2
        exact ⟨mv1, G2, q1, q2⟩
      have HB2 : Hid (Below w.heap.size w wa) := hbw.trans hb2
      clear HS1 hmo hd2 hb2 y0 y1 y2 hbw
      go_wp2_with fail
      exact ⟨⟨k + 1, by omega, by go_num, HN.out, HB2.out⟩, by simp [intOf]; omega⟩
    · have hke : k = len := by omega
      subst hke
      have hkl : decide ((k : Int) < (k : Int)) = false := by simp
      generalize csAt A os k = cs at *
      have hps := pat_size s
      have hcase : ((cut s 16).toList.isEmpty = true ∧ Hid ((⟨#[97]⟩ : ByteArray) = pat s)) ∨ ((cut s 16).toList.isEmpty = false ∧ Hid (cut s 16 = pat s)) := by
        by_cases hpz : (cut s 16).size = 0
        · left
          exact ⟨by rw [list_empty, hpz]; rfl, by show _ = _; unfold pat; rw [if_pos hpz]⟩
        · right
          exact ⟨by rw [list_empty]; simpa using hpz, by show _ = _; unfold pat; rw [if_neg hpz]⟩
      obtain ⟨x, vi, vd, F, hI⟩ := hd
      have hsz : Do.size (Do.there cs) ≤ 2400 := by
        have h1 : Do.size (Do.there cs) ≤ 40 * (Do.there cs).length := Do.sizeTo_le _ hI.fair.docs _
        have h2 := hI.fair.few
        omega
      have hfew := hI.fair.few
      have hit := insTo_le cs cs.length
      have HFA : Hid (Fair cs) := hI.fair
      have c7 := hI.blk.c7
      have HPG : Hid (∀ pt : ByteArray, 1 ≤ pt.size ∧ pt.size ≤ 16 → Calls Try.prog 10 #[.pointer (some ⟨dk, 0, none⟩), .string pt, .int .i64 ((Do.size (Do.there cs) : Nat) : Int)] wr fun e w' => ∃ u, e = .returned (.tuple #[u, .bool true]) ∧ OwnO w' wr.heap.size u (Do.hits (Do.there cs) pt.data.toList) ∧ Below wr.heap.size wr w') := fun pt hpt => dPages_any hC pt _ p1 (by omega) hM hpt (Do.hits_size _ _) (by omega) ⟨x, vi, vd, F, hI⟩
      have HDK : Hid (∀ W, Below wr.heap.size wr W → DeskIn At W dk x A b1 p1 cs mv vi vd F G1) := fun W hW => hI.quiet hC hW
      have HGL : Hid (∀ k, G1 k → k < wr.heap.size) := hI.lt
      have HBW : Hid (Below w.heap.size w wr) := hbw
      have HGB : Hid (∀ k, G1 k → w.heap.size ≤ k) := hG
      clear hI hbw hG
      go_wp2_with fail
      refine (kshort_any s 16 _ hs (by omega)).mono ?_
      rintro e w4 ⟨rfl, hw4⟩; rw [hw4]; clear hw4
      rcases hcase with ⟨hp0, HPE⟩ | ⟨hp0, HPE⟩
      all_goals
        go_wp2_with fail
        rw [HPE.out]
        clear HPE hp0
        generalize pat s = pt at *
        refine (HPG.out pt hps).mono ?_
        rintro e wa ⟨u, rfl, hu, ba⟩
        have sa := ba.size
        have hHs : (Do.hits (Do.there cs) pt.data.toList).length ≤ 2400 := Nat.le_trans (Do.hits_size _ _) hsz
        have c0 := (HDK.out wa ba).blk.c0
        have HVE : Hid (Calls Try.prog 11 #[.pointer (some ⟨x, 0, none⟩)] wa fun e w' => e = .returned (.int .i64 (cs.length : Int)) ∧ Below wa.heap.size wa w') := hC.version (by omega) (HDK.out wa ba).idx
        clear c7 HPG
        go_wp2_with fail
        refine HVE.out.mono ?_
        rintro e wb ⟨rfl, bb'⟩
        have bb := ba.trans (bb'.mono sa)
        have sb := bb'.size
        have hub := hu.below bb'
        clear HVE c0 bb' hu
        have HIN : Hid (Calls Try.prog 12 #[.pointer (some ⟨dk, 0, none⟩), .string dc] wb fun e w' => e = .returned (.bool true) ∧ Moved At dk A b1 p1 (insRes cs A dc).2.2 (insMv cs A dc mv) G1 wb w') := dInserts_any hC dc (by omega) hM hdc ⟨x, vi, vd, F, HDK.out wb bb⟩
        obtain ⟨al, cl, rfl, hlc⟩ := hub.any
        go_wp2_with fail
        refine HIN.out.mono ?_
        rintro e wc ⟨rfl, hmo⟩
        obtain ⟨hon, G2, hd2, hk2⟩ := hmo
        have HLC : Hid (∀ k o, (Do.hits (Do.there cs) pt.data.toList)[k]? = some o → ∃ g, al = some ⟨g, 0, none⟩ ∧ g < wc.heap.size ∧ ¬ G2 g ∧ wc.cell? ⟨g, k * 2, none⟩ = some (.int .i64 (o.id : Int)) ∧ wc.cell? ⟨g, k * 2 + 1, none⟩ = some (.int .i64 (o.at' : Int))) := fun k o hk => by
          obtain ⟨g, e1, e2, e3⟩ := hlc k o hk
          have hgl : g < wb.heap.size := World.block_lt_of_cell? wb _ e2
          have hgw : wr.heap.size ≤ g := by subst e1; exact (World.ownsRow.lt hub g rfl).1
          have hng : ¬ G1 g := fun hg => by have := HGL.out g hg; omega
          have hng2 : ¬ G2 g := fun hg => by
            rcases hk2 g hg with h | h
            · exact hng h
            · omega
          have hz := hon.size
          exact ⟨g, e1, by omega, hng2, (World.cell?_of_block (a := ⟨g, k * 2, none⟩) (hon.block g hgl hng)).trans e2, (World.cell?_of_block (a := ⟨g, k * 2 + 1, none⟩) (hon.block g hgl hng)).trans e3⟩
        have hG2 : Hid (∀ k, G2 k → w.heap.size ≤ k) := fun k hk => (hk2 k hk).elim (HGB.out k) (fun h => by omega)
        have bc' : Below w.heap.size wb wc := ⟨hon.os, hon.tape, hon.output, hon.size, fun k hk' => hon.block k (by omega) (fun h => by have := HGB.out k h; omega)⟩
        have hbc : Below w.heap.size w wc := (HBW.out.trans (bb.mono sw)).trans bc'
        have sc := hbc.size
        clear HIN hlc hub hon hk2 bc' bb ba HDK HGL HGB
        generalize hHH : Do.hits (Do.there cs) pt.data.toList = H at *
        have HHH : Hid (Do.hits (Do.there cs) pt.data.toList = H) := hHH
        clear hHH
        by_cases hacc : 40 < dc.size ∨ (A < (Do.size (Do.there cs) : Int) + dc.size ∨ 60 ≤ (Do.there cs).length)
        · have e1 : (insRes cs A dc).2.2 = cs := by
            unfold insRes
            by_cases h4 : 40 < dc.size
            · rw [if_pos h4]
            · rw [if_neg h4, if_pos (by omega)]
          have e2 : insMv cs A dc mv = mv := by
            unfold insMv
            by_cases h4 : 40 < dc.size
            · rw [if_pos h4]
            · rw [if_neg h4, if_pos (by omega)]
          rw [e1, e2] at hd2
          obtain ⟨x2, vi2, vd2, fx2, hI2⟩ := hd2
          obtain ⟨ai, ci, hvi, hri⟩ := row_any hI2.ri
          obtain ⟨ad, cd, hvd, hrd⟩ := row_any hI2.rd
          have c4 := hI2.blk.c4
          have c5 := hI2.blk.c5
          have c6 := hI2.blk.c6
          have c8 := hI2.blk.c8
          rw [hvi] at c4
          rw [hvd] at c5
          have HD2 : Hid (∀ W, Below wc.heap.size wc W → DeskIn At W dk x2 A b1 p1 cs mv vi2 vd2 fx2 G2) := fun W hW => hI2.quiet hC hW
          have HVN : Hid (∀ W, Below wc.heap.size wc W → Calls Try.prog 11 #[.pointer (some ⟨x2, 0, none⟩)] W fun e w' => e = .returned (.int .i64 (cs.length : Int)) ∧ Below W.heap.size W w') := fun W hW => hC.version (by omega) (HD2.out W hW).idx
          have HC0 : Hid (∀ W, Below wc.heap.size wc W → W.cell? ⟨dk, 0, none⟩ = some (.pointer (some ⟨x2, 0, none⟩)) ∧ W.cell? ⟨dk, 7, none⟩ = some (.int .i64 ((Do.size (Do.there cs) : Nat) : Int))) := fun W hW => ⟨(HD2.out W hW).blk.c0, (HD2.out W hW).blk.c7⟩
          have HP3 : Hid (∀ W, Below wc.heap.size wc W → Calls Try.prog 10 #[.pointer (some ⟨dk, 0, none⟩), .string pt, .int .i64 ((Do.size (Do.there cs) : Nat) : Int)] W fun e w' => ∃ u, e = .returned (.tuple #[u, .bool true]) ∧ OwnO w' W.heap.size u H ∧ Below W.heap.size W w') := fun W hW => by
            have := dPages_any hC pt (Do.size (Do.there cs)) p1 (by omega) hM hps (Do.hits_size _ _) (by omega) ⟨x2, vi2, vd2, fx2, HD2.out W hW⟩
            rw [HHH.out] at this
            exact this
          have HTO : Hid (∀ W B u, Below wc.heap.size wc W → OwnO W B u H → Calls Try.prog 13 #[.pointer (some ⟨dk, 0, none⟩), .string pt, u] W fun e w' => e = .returned (.bool true) ∧ Below W.heap.size W w') := fun W B u hW hu => dTold_in pt B u hps (HD2.out W hW) (by rw [HHH.out]; exact hu)
          have hvv : ((cs.length : Int) == (cs.length : Int)) = true := by simp
          have hHH2 : ((H.length : Int) == (H.length : Int)) = true := by simp
          have HFN : Hid (Below w.heap.size w wc) := hbc
          have key : (decide ((0 : Int) < mv) = false) ∨ (decide ((0 : Int) < mv) = true ∧ (Do.there cs).length = 0) ∨ (decide ((0 : Int) < mv) = true ∧ ∃ c, (Do.there cs)[(Do.there cs).length - 1]? = some c ∧ 0 < (Do.there cs).length) := by
            by_cases h1 : (0 : Int) < mv
            · right
              by_cases h2 : (Do.there cs).length = 0
              · left; exact ⟨by rw [decide_eq_true_eq]; exact h1, h2⟩
              · right; exact ⟨by rw [decide_eq_true_eq]; exact h1, (Do.there cs)[(Do.there cs).length - 1]'(by omega), List.getElem?_eq_getElem _, by omega⟩
            · left; rw [decide_eq_false_iff_not]; exact h1
          clear hI2 hvi hvd e1 e2 hacc HLC hbc
          have key2 : (decide ((0 : Int) < mv) = false) ∨ (decide ((0 : Int) < mv) = true ∧ wc.cell? ⟨dk, 4, none⟩ = some (.slice ai 0 ci)) ∨ (decide ((0 : Int) < mv) = true ∧ decide ((0 : Int) < ((Do.there cs).length : Int)) = true ∧ ∃ (c : Do.Chg) (gi gd : Nat), wc.cell? ⟨dk, 4, none⟩ = some (.slice (some ⟨gi, 0, none⟩) (Do.there cs).length ci) ∧ wc.cell? ⟨dk, 5, none⟩ = some (.slice (some ⟨gd, 0, none⟩) (Do.there cs).length cd) ∧ wc.cell? ⟨gi, (Do.there cs).length - 1, none⟩ = some (.int .i64 (c.id : Int)) ∧ wc.cell? ⟨gd, (Do.there cs).length - 1, none⟩ = some (.string c.doc) ∧ 1 ≤ (Do.there cs).length ∧
              ((((c.id : Int) == ((insTo cs cs.length : Nat) : Int) - 1) = false) ∨ (((c.id : Int) == ((insTo cs cs.length : Nat) : Int) - 1) = true ∧ decide ((dc.size : Int) ≤ 40) = false) ∨ (((c.id : Int) == ((insTo cs cs.length : Nat) : Int) - 1) = true ∧ decide ((dc.size : Int) ≤ 40) = true))) := by
            rcases key with m1 | ⟨m1, z1⟩ | ⟨m1, c, hc, z1⟩
            · exact .inl m1
            · right; left
              rw [z1] at c4
              exact ⟨m1, c4⟩
            · right; right
              obtain ⟨gi, hgi, e4⟩ := hri ((Do.there cs).length - 1) (.int .i64 (c.id : Int)) (by simp [ID, hc])
              obtain ⟨gd, hgd, e5⟩ := hrd ((Do.there cs).length - 1) (.string c.doc) (by simp [SD, hc])
              rw [hgi] at c4
              rw [hgd] at c5
              refine ⟨m1, by rw [decide_eq_true_eq]; omega, c, gi, gd, c4, c5, e4, e5, z1, ?_⟩
              cases h1 : ((c.id : Int) == ((insTo cs cs.length : Nat) : Int) - 1)
              · exact .inl rfl
              · right
                cases h2 : decide ((dc.size : Int) ≤ 40)
                · exact .inl ⟨rfl, rfl⟩
                · exact .inr ⟨rfl, rfl⟩
          clear key hri hrd c4 c5
          rcases key2 with m1 | ⟨m1, c4⟩ | ⟨m1, m2, c, gi, gd, c4, c5, e4, e5, z1, n1 | ⟨n1, n2⟩ | ⟨n1, n2⟩⟩
          all_goals (try (have m3 : decide (0 < (Do.there cs).length) = true := by rw [decide_eq_true_eq]; exact z1))
          all_goals (try (have n3 : decide (dc.size ≤ 40) = false := by rw [decide_eq_false_iff_not] at n2 ⊢; omega))
          all_goals (try (have n3 : decide (dc.size ≤ 40) = true := by rw [decide_eq_true_eq] at n2 ⊢; omega))
          all_goals
            go_wp2_with fail
            go_quiet (fail)
            have bq : Below wc.heap.size wc (wc.drewN nq) := below_drewN (Below.refl _ _) _
            obtain ⟨c0, _⟩ := HC0.out _ bq
            go_wp2_with fail
            refine (HVN.out _ bq).mono ?_
            rintro e wd ⟨rfl, bd'⟩
            have bd : Below wc.heap.size wc wd := bq.trans bd'
            have sd := bd.size
            clear c6 c8 c0 bd'
            obtain ⟨c0, c7⟩ := HC0.out _ bd
            go_wp2_with fail
            refine (HP3.out _ bd).mono ?_
            rintro e we ⟨uk, rfl, huk, be'⟩
            have be := bd.trans (be'.mono sd)
            have se := be.size
            clear c0 c7 be'
            have HT1 := HTO.out we _ uk be huk
            obtain ⟨ak, ck, rfl, _⟩ := huk.any
            go_wp2_with fail
            refine HT1.mono ?_
            rintro e wf ⟨rfl, bf'⟩
            have bf := be.trans (bf'.mono se)
            clear HT1 huk
            go_wp2_with fail
            go_ret
            exact ⟨by first | rfl | simp, HFN.out.trans (bf.mono sc)⟩
        · have e1 : (insRes cs A dc).2.2 = cs ++ [⟨true, dc, insTo cs cs.length⟩] := by unfold insRes; rw [if_neg (by omega), if_neg (by omega)]
          have e2 : insMv cs A dc mv = (dc.size : Int) + 1 := by unfold insMv; rw [if_neg (by omega), if_neg (by omega)]
          rw [e1, e2] at hd2
          obtain ⟨x2, vi2, vd2, fx2, hI2⟩ := hd2
          have hth : Do.there (cs ++ [⟨true, dc, insTo cs cs.length⟩]) = Do.there cs ++ [⟨true, dc, insTo cs cs.length⟩] := Do.there_ins _ _ rfl
          have ri := hI2.ri
          have rd := hI2.rd
          rw [hth] at ri rd
          obtain ⟨ai, ci, hvi, hri⟩ := row_any ri
          obtain ⟨ad, cd, hvd, hrd⟩ := row_any rd
          obtain ⟨gi, rfl, e4⟩ := hri (Do.there cs).length (.int .i64 ((insTo cs cs.length : Nat) : Int)) (by simp [ID])
          obtain ⟨gd, rfl, e5⟩ := hrd (Do.there cs).length (.string dc) (by simp [SD])
          have c4 := hI2.blk.c4
          have c5 := hI2.blk.c5
          have c6 := hI2.blk.c6
          have c8 := hI2.blk.c8
          rw [hvi, List.length_append, List.length_singleton] at c4
          rw [hvd, List.length_append, List.length_singleton] at c5
          rw [insTo_more', if_pos rfl] at c6
          have HD2 : Hid (∀ W, Below wc.heap.size wc W → DeskIn At W dk x2 A b1 p1 (cs ++ [⟨true, dc, insTo cs cs.length⟩]) ((dc.size : Int) + 1) vi2 vd2 fx2 G2) := fun W hW => hI2.quiet hC hW
          have HCW := came_went cs HFA.out dc
          have HCW1 : Hid (Do.there (delRes (cs ++ [⟨true, dc, insTo cs cs.length⟩]) ((insTo cs cs.length : Nat) : Int)).2 = Do.there cs) := HCW.1
          have HCW2 : Hid ((delRes (cs ++ [⟨true, dc, insTo cs cs.length⟩]) ((insTo cs cs.length : Nat) : Int)).2.length = cs.length + 2) := HCW.2
          have hG2l : Hid (∀ k, G2 k → k < wc.heap.size) := hI2.lt
          have HVN : Hid (∀ W, Below wc.heap.size wc W → Calls Try.prog 11 #[.pointer (some ⟨x2, 0, none⟩)] W fun e w' => e = .returned (.int .i64 ((cs.length : Int) + 1)) ∧ Below W.heap.size W w') := fun W hW => by
            have := hC.version (by simp; omega) (HD2.out W hW).idx
            rw [show (((cs ++ [(⟨true, dc, insTo cs cs.length⟩ : Do.Chg)]).length : Nat) : Int) = (cs.length : Int) + 1 from by simp] at this
            exact this
          have HC0 : Hid (∀ W, Below wc.heap.size wc W → W.cell? ⟨dk, 0, none⟩ = some (.pointer (some ⟨x2, 0, none⟩)) ∧ W.cell? ⟨dk, 6, none⟩ = some (.int .i64 (((insTo cs cs.length : Nat) : Int) + 1))) := fun W hW => by
            refine ⟨(HD2.out W hW).blk.c0, ?_⟩
            have := (HD2.out W hW).blk.c6
            rw [insTo_more', if_pos rfl] at this
            exact this
          have HDE : Hid (∀ W, Below wc.heap.size wc W → Calls Try.prog 14 #[.pointer (some ⟨dk, 0, none⟩), .int .i64 ((insTo cs cs.length : Nat) : Int)] W fun e w' => e = .returned (.bool true) ∧ ∃ mv', Moved At dk A b1 p1 (delRes (cs ++ [⟨true, dc, insTo cs cs.length⟩]) ((insTo cs cs.length : Nat) : Int)).2 mv' G2 W w') := fun W hW => (dDeletes_any hC ((insTo cs cs.length : Nat) : Int) (by simp; omega) (by unfold inR; omega) ⟨x2, vi2, vd2, fx2, HD2.out W hW⟩).mono fun e w' ⟨h1, h2⟩ => ⟨h1, _, h2⟩
          have d8 : decide ((0 : Int) < (dc.size : Int) + 1) = true := by rw [decide_eq_true_eq]; omega
          have d40 : decide ((dc.size : Int) ≤ 40) = true := by rw [decide_eq_true_eq]; omega
          have hdd : (dc.toList == dc.toList) = true := by simp
          clear hri hrd hvi hvd hI2 ri rd HCW hth e1 e2 hacc
          generalize (Do.there cs).length = q at *
          have dq : decide ((0 : Int) < (q : Int) + 1) = true := by rw [decide_eq_true_eq]; omega
          have hNN : (((insTo cs cs.length : Nat) : Int) == ((insTo cs cs.length : Nat) : Int)) = true := by simp
          go_wp2_with fail
          go_quiet (fail)
          have bq : Below wc.heap.size wc (wc.drewN nq) := below_drewN (Below.refl _ _) _
          obtain ⟨c0, _⟩ := HC0.out _ bq
          go_wp2_with fail
          refine (HVN.out _ bq).mono ?_
          rintro e wd ⟨rfl, bd'⟩
          have bd : Below wc.heap.size wc wd := bq.trans bd'
          have sd := bd.size
          clear c4 c5 c6 c8 e4 e5 c0 bd'
          have hvv : (((cs.length : Int) + 1) == (cs.length : Int)) = false := by rw [beq_eq_false_iff_ne]; omega
          obtain ⟨c0, c6⟩ := HC0.out _ bd
          go_wp2_with fail
          refine (HDE.out _ bd).mono ?_
          rintro e we ⟨rfl, mv3, hmo3⟩
          have se := hmo3.1.size
          have HL2 : Hid (∀ k o, H[k]? = some o → ∃ g, al = some ⟨g, 0, none⟩ ∧ g < we.heap.size ∧ we.cell? ⟨g, k * 2, none⟩ = some (.int .i64 (o.id : Int)) ∧ we.cell? ⟨g, k * 2 + 1, none⟩ = some (.int .i64 (o.at' : Int))) := fun k o hk => by
            obtain ⟨g, e1, e2, e3, e4, e5⟩ := HLC.out k o hk
            have f4 := (bd.cell (p := ⟨g, k * 2, none⟩) e2).trans e4
            have f5 := (bd.cell (p := ⟨g, k * 2 + 1, none⟩) e2).trans e5
            exact ⟨g, e1, by omega, (World.cell?_of_block (a := ⟨g, k * 2, none⟩) (hmo3.1.block g (by omega) e3)).trans f4, (World.cell?_of_block (a := ⟨g, k * 2 + 1, none⟩) (hmo3.1.block g (by omega) e3)).trans f5⟩
          obtain ⟨⟨G3, hd3, hG3⟩, be'⟩ := one_step (B := w.heap.size) (by omega) hG2.out hmo3
          have hbe : Below w.heap.size w we := (hbc.trans (bd.mono sc)).trans be'
          obtain ⟨x3, vi3, vd3, fx3, hI3⟩ := hd3
          have c73 := hI3.blk.c7
          rw [HCW1.out] at c73
          have HP3 : Hid (Calls Try.prog 10 #[.pointer (some ⟨dk, 0, none⟩), .string pt, .int .i64 ((Do.size (Do.there cs) : Nat) : Int)] we fun e w' => ∃ u, e = .returned (.tuple #[u, .bool true]) ∧ OwnO w' we.heap.size u H ∧ Below we.heap.size we w') := by
            have := dPages_any hC pt (Do.size (Do.there cs)) p1 (by rw [HCW2.out]; omega) hM hps (by rw [HCW1.out]; exact Do.hits_size _ _) (by omega) ⟨x3, vi3, vd3, fx3, hI3⟩
            rw [HCW1.out, HHH.out] at this
            exact this
          have HV3 : Hid (∀ W, Below we.heap.size we W → Calls Try.prog 11 #[.pointer (some ⟨x3, 0, none⟩)] W fun e w' => e = .returned (.int .i64 ((cs.length : Int) + 2)) ∧ Below W.heap.size W w') := fun W hW => by
            have := hC.version (by rw [HCW2.out]; omega) (hI3.quiet hC hW).idx
            rw [HCW2.out] at this
            exact this
          have HC3 : Hid (∀ W, Below we.heap.size we W → W.cell? ⟨dk, 0, none⟩ = some (.pointer (some ⟨x3, 0, none⟩))) := fun W hW => (hI3.quiet hC hW).blk.c0
          clear c0 c6 hmo3 hI3 be' HDE HVN HC0 HD2 HLC hG3 bd bq HCW1 HCW2 hG2l
          go_wp2_with fail
          refine HP3.out.mono ?_
          rintro e wf ⟨uk, rfl, huk, bf⟩
          have sf := bf.size
          have c03 := HC3.out wf bf
          clear c73 HP3
          go_wp2_with fail
          refine (HV3.out wf bf).mono ?_
          rintro e wg ⟨rfl, bg'⟩
          have sg := bg'.size
          have bg := bf.trans (bg'.mono sf)
          have hukg := huk.below bg'
          obtain ⟨ak, ck, rfl, hkc⟩ := hukg.any
          have HKC : Hid (∀ k o, H[k]? = some o → ∃ g, ak = some ⟨g, 0, none⟩ ∧ wg.cell? ⟨g, k * 2, none⟩ = some (.int .i64 (o.id : Int)) ∧ wg.cell? ⟨g, k * 2 + 1, none⟩ = some (.int .i64 (o.at' : Int))) := hkc
          have HLG : Hid (∀ k o, H[k]? = some o → ∃ g, al = some ⟨g, 0, none⟩ ∧ wg.cell? ⟨g, k * 2, none⟩ = some (.int .i64 (o.id : Int)) ∧ wg.cell? ⟨g, k * 2 + 1, none⟩ = some (.int .i64 (o.at' : Int))) := fun k o hk => by
            obtain ⟨g, e1, e2, e3, e4⟩ := HL2.out k o hk
            exact ⟨g, e1, (bg.cell (p := ⟨g, k * 2, none⟩) e2).trans e3, (bg.cell (p := ⟨g, k * 2 + 1, none⟩) e2).trans e4⟩
          have HBG : Hid (Below w.heap.size w wg) := hbe.trans (bg.mono (by omega))
          have hn1 : (((cs.length : Int) + 1) != ((cs.length : Int) + 1)) = false := by simp
          have hn2 : (((cs.length : Int) + 2) != ((cs.length : Int) + 2)) = false := by simp
          have hn3 : ((H.length : Int) != (H.length : Int)) = false := by simp
          clear c03 HV3 HC3 bg' bf bg huk hukg hkc HL2 hbe hbc
          go_wp2_with fail
          go_loopw [26] (fun i wr => ∃ j : Nat, j ≤ H.length ∧ i = .int .i64 j ∧ ∃ m, wr = wg.drewN m) (fun i _ => H.length - (intOf i).toNat)
          case atStart => exact ⟨0, Nat.zero_le _, rfl, 0, rfl⟩
          case round =>
            obtain ⟨j, hj, rfl, m, rfl⟩ := hrel
            by_cases hjl : j < H.length
            · obtain ⟨o, hoo⟩ : ∃ o, H[j]? = some o := ⟨H[j], List.getElem?_eq_getElem hjl⟩
              obtain ⟨gl, rfl, e1, e2⟩ := HLG.out j o hoo
              obtain ⟨gk, rfl, e3, e4⟩ := HKC.out j o hoo
              have n1' : ((o.id : Int) != (o.id : Int)) = false := by simp
              have n2' : ((o.at' : Int) != (o.at' : Int)) = false := by simp
              clear hoo HLG HKC
              go_wp2
              go_quiet (fail)
              go_wp2
              go_roundw
              case rel => exact ⟨j + 1, by omega, by go_num, _, rfl⟩
              case measure => simp [intOf]; omega
            · have HBW9 : Hid (Below w.heap.size w (wg.drewN m)) := below_drewN HBG.out m
              go_wp2
              go_ret
              exact ⟨rfl, HBW9.out⟩
end

end Go.Proofs.Ythkndfkkgncjfab
