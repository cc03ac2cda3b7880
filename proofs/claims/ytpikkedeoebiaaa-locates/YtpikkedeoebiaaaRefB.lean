/- Walks over the document's index: there, bytes, find, Version, List. -/
import Derived.Test.YtpikkedeoebiaaaRefA
import Derived.Test.YtpikkedeoebiaaaDocB
namespace Go.Proofs.Ytpikkedeoebiaaa
open Go.RowKit
set_option maxRecDepth 100000

/-- the two shapes of a row of changes -/
theorem OwnC.shape {w : World} {B : Nat} {v : Value} {cs : List Do.Chg} (h : OwnC w B v cs) : (v = .slice none 0 0 ∧ cs = []) ∨ (∃ g cap, v = .slice (some ⟨g, 0, none⟩) cs.length cap ∧ B ≤ g ∧ g < w.heap.size) := by
  rcases h.2 with ⟨e, hn⟩ | ⟨g, cap, cur, e, hB, hg, _⟩
  · left
    refine ⟨e, ?_⟩
    cases cs with
    | nil => rfl
    | cons c r => simp at hn
  · right
    exact ⟨g, cap, e, hB, lt_of_block hg⟩
theorem OwnC.weaken {w : World} {B C : Nat} {v : Value} {cs : List Do.Chg} (h : OwnC w B v cs) (hc : C ≤ B) : OwnC w C v cs := by
  refine ⟨h.1, ?_⟩
  rcases h.2 with hn | ⟨g1, cap, cur, e, hB, rest⟩
  · exact .inl hn
  · exact .inr ⟨g1, cap, cur, e, Nat.le_trans hc hB, rest⟩

set_option maxHeartbeats 400000 in
theorem there_nil (r : Nat) (a b p : Int) (w : World) (h : RefAt w r a b p (.slice none 0 0)) :
    Calls Try.prog 93 #[.pointer (some ⟨r, 0, none⟩)] w fun e w' => e = .returned (.slice none 0 0) ∧ w' = w := by
  have c3 := h.c3
  go_enter Try.func93, Try.ntmps93
  go_wp2
  refine wp_loop_rounds 1 ?_
  rw [rounds_succ]
  go_wp2
  go_ret
  exact ⟨rfl, rfl⟩

/-- an index at block r holds the changes cs -/
def IdxAt (w : World) (r : Nat) (a b p : Int) (cs : List Do.Chg) : Prop := ∃ v, RefAt w r a b p v ∧ OwnC w 0 v cs

theorem there_any (r : Nat) (a b p : Int) (cs : List Do.Chg) (w : World) (hl : cs.length ≤ 2000000000000) (h : IdxAt w r a b p cs) :
    Calls Try.prog 93 #[.pointer (some ⟨r, 0, none⟩)] w fun e w' => ∃ v, e = .returned v ∧ OwnC w' w.heap.size v (Do.there cs) ∧ Below w.heap.size w w' := by
  obtain ⟨v, h1, h2⟩ := h
  rcases h2.shape with ⟨rfl, rfl⟩ | ⟨g, cap, rfl, _, _⟩
  · refine (there_nil r a b p w h1).mono ?_
    rintro e w' ⟨rfl, rfl⟩
    exact ⟨_, rfl, World.ownsRow_nil _ _ _ _, Below.refl _ _⟩
  · exact there_some r g cs.length cap a b p cs w rfl hl h1 h2

set_option maxHeartbeats 400000 in
theorem bytes_any (B : Nat) (v : Value) (cs : List Do.Chg) (w : World) (hl : cs.length ≤ 2000000000000) (hd : ∀ c ∈ cs, c.doc.size ≤ 40) (h : OwnC w B v cs) :
    Calls Try.prog 94 #[v] w fun e w' => e = .returned (.int .i64 (Do.size cs : Nat)) ∧ w' = w := by
  rcases h.shape with ⟨rfl, rfl⟩ | ⟨g, cap, rfl, _, _⟩
  · go_enter Try.func94, Try.ntmps94
    go_wp2
    refine wp_loop_rounds 1 ?_
    rw [rounds_succ]
    go_wp2
    go_ret
    exact ⟨rfl, rfl⟩
  · obtain ⟨n, hn⟩ : ∃ n, cs.length = n := ⟨_, rfl⟩
    have HZ : Hid (Do.size cs = Do.sizeTo cs n) := by show Do.size cs = Do.sizeTo cs n; rw [← hn]; rfl
    rw [hn] at h hl
    rw [hn]
    go_enter Try.func94, Try.ntmps94
    go_wp2
    go_loop [3, 4] (fun s i => ∃ k : Nat, k ≤ n ∧ i = .int .i64 k ∧ s = .int .i64 (Do.sizeTo cs k : Nat)) (fun _ i => n - (intOf i).toNat)
    case atStart => exact ⟨0, Nat.zero_le _, rfl, rfl⟩
    case round =>
      obtain ⟨k, hk, rfl, rfl⟩ := hrel
      have hle := Do.sizeTo_le cs hd k
      by_cases hlt : k < n
      · obtain ⟨c, hck⟩ : ∃ c, cs[k]? = some c := ⟨cs[k], List.getElem?_eq_getElem (by omega)⟩
        obtain ⟨_, x1, _⟩ := h.cell hn k c hck
        have hc40 := hd c (List.mem_of_getElem? hck)
        have HS : Hid (Do.sizeTo cs (k + 1) = Do.sizeTo cs k + c.doc.size) := Do.sizeTo_succ cs k c hck
        clear hck hn
        go_wp2
        go_round
        case rel => exact ⟨k + 1, by omega, by go_num, by rw [HS.out]; go_num⟩
        case measure => simp [intOf]; omega
      · have hke : k = n := by omega
        subst hke
        clear hn
        go_wp2
        go_ret
        exact ⟨ret_int (by rw [HZ.out]), rfl⟩

/-- an answer of find -/
def atVal (o : Option Nat) : Int := match o with
  | none => -1
  | some k => k

set_option maxHeartbeats 400000 in
theorem find_any (B : Nat) (v : Value) (cs : List Do.Chg) (id : Int) (w : World) (hl : cs.length ≤ 2000000000000) (h : OwnC w B v cs) :
    Calls Try.prog 95 #[v, .int .i64 id] w fun e w' => e = .returned (.int .i64 (atVal (Do.at? cs id))) ∧ w' = w := by
  rcases h.shape with ⟨rfl, rfl⟩ | ⟨g, cap, rfl, _, _⟩
  · go_enter Try.func95, Try.ntmps95
    go_wp2
    refine wp_loop_rounds 1 ?_
    rw [rounds_succ]
    go_wp2
    go_ret
    exact ⟨rfl, rfl⟩
  · obtain ⟨n, hn⟩ : ∃ n, cs.length = n := ⟨_, rfl⟩
    have HL : Hid (cs.length = n) := hn
    rw [hn] at h hl
    rw [hn]
    clear hn
    go_enter Try.func95, Try.ntmps95
    go_wp2
    go_loop [5] (fun i => ∃ k : Nat, k ≤ n ∧ i = .int .i64 k ∧ ∀ (j : Nat) (d : Do.Chg), j < k → cs[j]? = some d → ((d.id : Int) == id) = false) (fun i => n - (intOf i).toNat)
    case atStart => exact ⟨0, Nat.zero_le _, rfl, fun j d hj => by omega⟩
    case round =>
      obtain ⟨k, hk, rfl, hno⟩ := hrel
      have HN : Hid (∀ (j : Nat) (d : Do.Chg), j < k → cs[j]? = some d → ((d.id : Int) == id) = false) := hno
      clear hno
      by_cases hlt : k < n
      · obtain ⟨c, hck⟩ : ∃ c, cs[k]? = some c := ⟨cs[k]'(by rw [HL.out]; omega), List.getElem?_eq_getElem (by rw [HL.out]; omega)⟩
        obtain ⟨_, _, x2⟩ := h.cell HL.out k c hck
        have HC : Hid (cs[k]? = some c) := hck
        clear hck
        by_cases hid : ((c.id : Int) == id) = true
        · have HF : Hid (Do.at? cs id = some k) := Do.at_some cs id k c HC.out hid HN.out
          go_wp2
          go_ret
          exact ⟨ret_int (by rw [HF.out]; rfl), rfl⟩
        · have hid1 : ((c.id : Int) == id) = false := by simpa using hid
          clear hid
          go_wp2
          go_round
          case rel =>
            refine ⟨k + 1, by omega, by go_num, fun j d hj hd => ?_⟩
            by_cases ej : j = k
            · subst ej
              have := HC.out
              rw [this] at hd
              simp only [Option.some.injEq] at hd
              rw [← hd]; exact hid1
            · exact HN.out j d (by omega) hd
          case measure => simp [intOf]; omega
      · have hke : k = n := by omega
        subst hke
        have HF : Hid (Do.at? cs id = none) := Do.at_none cs id (fun j d hd => HN.out j d (by
          rcases Nat.lt_or_ge j cs.length with h2 | h2
          · have := HL.out; omega
          · rw [List.getElem?_eq_none h2] at hd; cases hd) hd)
        go_wp2
        go_ret
        exact ⟨ret_int (by rw [HF.out]; rfl), rfl⟩

set_option maxHeartbeats 400000 in
theorem rVersion_any (r : Nat) (a b p : Int) (cs : List Do.Chg) (w : World) (h : IdxAt w r a b p cs) :
    Calls Try.prog 80 #[.pointer (some ⟨r, 0, none⟩)] w fun e w' => e = .returned (.int .i64 (cs.length : Int)) ∧ w' = w := by
  obtain ⟨v, h1, h2⟩ := h
  rcases h2.shape with ⟨rfl, rfl⟩ | ⟨g, cap, rfl, _, _⟩
  · have c3 := h1.c3
    go_enter Try.func80, Try.ntmps80
    go_wp2
    go_ret
    exact ⟨rfl, rfl⟩
  · have c3 := h1.c3
    go_enter Try.func80, Try.ntmps80
    go_wp2
    go_ret
    exact ⟨rfl, rfl⟩

end Go.Proofs.Ytpikkedeoebiaaa
