/- A drawer in which lists lie: looks. -/
import Derived.Test.YtpikkedeoebiaaaLawE
namespace Go.Proofs.Ytpikkedeoebiaaa
open Go.RowKit
set_option maxRecDepth 100000

/-- a list of numbers that reads x throughout; of pairs -/
def ReadsI (w : World) (s : Value) (x : Int) : Prop := ∃ a len cap, s = .slice a len cap ∧ len ≤ 1000000 ∧ ∀ i, i < len → ∃ g, a = some ⟨g, 0, none⟩ ∧ w.cell? ⟨g, i, none⟩ = some (.int .i64 x)
def ReadsH (w : World) (s : Value) (x : Int) : Prop := ∃ a len cap, s = .slice a len cap ∧ len ≤ 1000000 ∧ ∀ i, i < len → ∃ g, a = some ⟨g, 0, none⟩ ∧ w.cell? ⟨g, i * 2, none⟩ = some (.int .i64 x) ∧ w.cell? ⟨g, i * 2 + 1, none⟩ = some (.int .i64 x)

theorem row_slice {w : World} {base : Nat} {e : TypeId} {size : Nat} {v : Value} {n : Nat} {xs : List Value} (h : w.ownsRow base e size v n xs) : ∃ a cap, v = .slice a n cap := by
  rcases h.2 with ⟨h1, h2⟩ | ⟨g, cap, cur, h1, _⟩
  · exact ⟨none, 0, by rw [h1, h2]⟩
  · exact ⟨_, cap, h1⟩
theorem row_at {w : World} {base : Nat} {e : TypeId} {a : Option Addr} {cap n : Nat} {xs : List Value} (h : w.ownsRow base e 1 (.slice a n cap) n xs) {k : Nat} {u : Value} (hk : xs[k]? = some u) : ∃ g, a = some ⟨g, 0, none⟩ ∧ w.cell? ⟨g, k, none⟩ = some u := by
  have hkl : k < n := by
    have h1 := h.1
    rcases Nat.lt_or_ge k xs.length with h2 | h2
    · omega
    · rw [List.getElem?_eq_none h2] at hk; cases hk
  rcases h.2 with ⟨h1, h2⟩ | ⟨g, cap', cur, h1, _⟩
  · omega
  · cases h1
    exact ⟨g, rfl, by rw [World.ownsRow.cellAt h k (by omega)]; exact hk⟩

set_option maxHeartbeats 2000000 in
theorem looks_any (D : Nat) (n : Int) (vi vh vn vm : Value) (Li Lh : List (Value × Int)) (w : World) (hd : w.heap[D]? = some (.cells #[.int .i64 n, vi, vh, vn, vm] 28 (0, 0)))
    (h1 : w.ownsRow 0 26 1 vi Li.length (Li.map (·.1))) (h2 : w.ownsRow 0 66 1 vh Lh.length (Lh.map (·.1))) (h3 : w.ownsRow 0 3 1 vn Li.length (Li.map fun p => .int .i64 p.2)) (h4 : w.ownsRow 0 3 1 vm Lh.length (Lh.map fun p => .int .i64 p.2))
    (hI : ∀ p ∈ Li, ReadsI w p.1 p.2) (hH : ∀ p ∈ Lh, ReadsH w p.1 p.2) (hli : Li.length ≤ 10000000000000) (hlh : Lh.length ≤ 10000000000000) :
    Calls Try.prog 50 #[.pointer (some ⟨D, 0, none⟩)] w fun e w' => e = .returned (.bool true) ∧ Below w.heap.size w w' := by
  obtain ⟨ai, ci, rfl⟩ := row_slice h1
  obtain ⟨ah, ch, rfl⟩ := row_slice h2
  obtain ⟨an, cn, rfl⟩ := row_slice h3
  obtain ⟨am, cm, rfl⟩ := row_slice h4
  have c1 : w.cell? ⟨D, 1, none⟩ = some (.slice ai Li.length ci) := by rw [cell_of_row w D 1 _ 28 (0, 0) hd]; rfl
  have c2 : w.cell? ⟨D, 2, none⟩ = some (.slice ah Lh.length ch) := by rw [cell_of_row w D 2 _ 28 (0, 0) hd]; rfl
  have c3 : w.cell? ⟨D, 3, none⟩ = some (.slice an Li.length cn) := by rw [cell_of_row w D 3 _ 28 (0, 0) hd]; rfl
  have c4 : w.cell? ⟨D, 4, none⟩ = some (.slice am Lh.length cm) := by rw [cell_of_row w D 4 _ 28 (0, 0) hd]; rfl
  have H1 : Hid (∀ (k : Nat) (p : Value × Int), Li[k]? = some p → ReadsI w p.1 p.2 ∧ (∃ g, ai = some ⟨g, 0, none⟩ ∧ w.cell? ⟨g, k, none⟩ = some p.1) ∧ ∃ g, an = some ⟨g, 0, none⟩ ∧ w.cell? ⟨g, k, none⟩ = some (.int .i64 p.2)) := fun k p hp =>
    ⟨hI p (List.mem_of_getElem? hp), row_at h1 (by rw [List.getElem?_map, hp]; rfl), row_at h3 (by rw [List.getElem?_map, hp]; rfl)⟩
  have H2 : Hid (∀ (k : Nat) (p : Value × Int), Lh[k]? = some p → ReadsH w p.1 p.2 ∧ (∃ g, ah = some ⟨g, 0, none⟩ ∧ w.cell? ⟨g, k, none⟩ = some p.1) ∧ ∃ g, am = some ⟨g, 0, none⟩ ∧ w.cell? ⟨g, k, none⟩ = some (.int .i64 p.2)) := fun k p hp =>
    ⟨hH p (List.mem_of_getElem? hp), row_at h2 (by rw [List.getElem?_map, hp]; rfl), row_at h4 (by rw [List.getElem?_map, hp]; rfl)⟩
  clear hI hH h1 h2 h3 h4 hd
  go_enter Try.func50, Try.ntmps50
  go_wp2
  go_loopw [3] (fun i wr => ∃ k : Nat, k ≤ Li.length ∧ i = .int .i64 k ∧ ∃ m, wr = w.drewN m) (fun i _ => Li.length - (intOf i).toNat)
  case atStart => exact ⟨0, Nat.zero_le _, rfl, 0, rfl⟩
  case round =>
    obtain ⟨k, hk, rfl, m, rfl⟩ := hrel
    by_cases hlt : k < Li.length
    · obtain ⟨⟨s, x⟩, hp⟩ : ∃ p, Li[k]? = some p := ⟨Li[k], List.getElem?_eq_getElem hlt⟩
      obtain ⟨⟨a, len, cap, hs, hlen, hr⟩, ⟨gi, rfl, q1⟩, ⟨gn, rfl, q2⟩⟩ := H1.out k (s, x) hp
      dsimp only at hs q1 q2 hr
      subst hs
      have HR : Hid (∀ i, i < len → ∃ g, a = some ⟨g, 0, none⟩ ∧ w.cell? ⟨g, i, none⟩ = some (.int .i64 x)) := hr
      clear hr hp
      go_wp2
      go_loopw [4] (fun i wr => ∃ j : Nat, j ≤ len ∧ i = .int .i64 j ∧ ∃ m, wr = w.drewN m) (fun i _ => len - (intOf i).toNat)
      case atStart => exact ⟨0, Nat.zero_le _, rfl, m, rfl⟩
      case round =>
        obtain ⟨j, hj, rfl, m2, rfl⟩ := hrel
        by_cases hjl : j < len
        · obtain ⟨g, rfl, q3⟩ := HR.out j hjl
          have hne : (x != x) = false := by simp
          go_wp2
          go_quiet (fail)
          go_wp2
          go_roundw
          case rel => exact ⟨j + 1, by omega, by go_num, _, rfl⟩
          case measure => simp [intOf]; omega
        · go_wp2
          go_roundw
          case rel => exact ⟨k + 1, by omega, by go_num, _, rfl⟩
          case measure => simp [intOf]; omega
    · go_wp2
      go_loopw [5] (fun i wr => ∃ k : Nat, k ≤ Lh.length ∧ i = .int .i64 k ∧ ∃ m, wr = w.drewN m) (fun i _ => Lh.length - (intOf i).toNat)
      case atStart => exact ⟨0, Nat.zero_le _, rfl, m, rfl⟩
      case round =>
        obtain ⟨k, hk, rfl, m, rfl⟩ := hrel
        by_cases hlt : k < Lh.length
        · obtain ⟨⟨s, x⟩, hp⟩ : ∃ p, Lh[k]? = some p := ⟨Lh[k], List.getElem?_eq_getElem hlt⟩
          obtain ⟨⟨a, len, cap, hs, hlen, hr⟩, ⟨gi, rfl, q1⟩, ⟨gn, rfl, q2⟩⟩ := H2.out k (s, x) hp
          dsimp only at hs q1 q2 hr
          subst hs
          have HR : Hid (∀ i, i < len → ∃ g, a = some ⟨g, 0, none⟩ ∧ w.cell? ⟨g, i * 2, none⟩ = some (.int .i64 x) ∧ w.cell? ⟨g, i * 2 + 1, none⟩ = some (.int .i64 x)) := hr
          clear hr hp
          go_wp2
          go_loopw [6] (fun i wr => ∃ j : Nat, j ≤ len ∧ i = .int .i64 j ∧ ∃ m, wr = w.drewN m) (fun i _ => len - (intOf i).toNat)
          case atStart => exact ⟨0, Nat.zero_le _, rfl, m, rfl⟩
          case round =>
            obtain ⟨j, hj, rfl, m2, rfl⟩ := hrel
            by_cases hjl : j < len
            · obtain ⟨g, rfl, q3, q4⟩ := HR.out j hjl
              have hne : (x != x) = false := by simp
              go_wp2
              go_quiet (fail)
              go_wp2
              go_roundw
              case rel => exact ⟨j + 1, by omega, by go_num, _, rfl⟩
              case measure => simp [intOf]; omega
            · go_wp2
              go_roundw
              case rel => exact ⟨k + 1, by omega, by go_num, _, rfl⟩
              case measure => simp [intOf]; omega
        · go_wp2
          go_ret
          exact ⟨rfl, below_drewN (Below.refl _ _) _⟩

end Go.Proofs.Ytpikkedeoebiaaa
