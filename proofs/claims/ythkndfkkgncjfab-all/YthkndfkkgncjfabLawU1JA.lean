/- LawJ, LawK, LawL, WalkE, LawW, LawM. -/
import Derived.Test.YthkndfkkgncjfabLawQJA
import Derived.Deep.AppendLies
import Derived.ArgAppend
import Derived.Test.YthkndfkkgncjfabRefSJA
import Derived.Deep.RegionHeldLaw
import Derived.Deep.RegionLawGrows
import Derived.Deep.DeepAppendWide
namespace Go.Proofs.Ythkndfkkgncjfab
open Go.RowKit
set_option maxRecDepth 100000

/-- a list of numbers that reads x throughout; of pairs -/
def ReadsI (w : World) (s : Value) (x : Int) : Prop := ∃ a len cap, s = .slice a len cap ∧ len ≤ 1000000 ∧ ∀ i, i < len → ∃ g, a = some ⟨g, 0, none⟩ ∧ w.cell? ⟨g, i, none⟩ = some (.int .i64 x)
def ReadsH (w : World) (s : Value) (x : Int) : Prop := ∃ a len cap, s = .slice a len cap ∧ len ≤ 1000000 ∧ ∀ i, i < len → ∃ g, a = some ⟨g, 0, none⟩ ∧ w.cell? ⟨g, i * 2, none⟩ = some (.int .i64 x) ∧ w.cell? ⟨g, i * 2 + 1, none⟩ = some (.int .i64 x)

theorem row_slice {w : World} {base : Nat} {e : TypeId} {size : Nat} {v : Value} {n : Nat} {xs : List Value} (h : w.ownsRow base e size v n xs) : ∃ a cap, v = .slice a n cap := by
  rcases h.2 with ⟨h1, h2⟩ | ⟨g, cap, cur, h1, _⟩
  · exact ⟨none, 0, by rw [h1, h2]⟩
  · exact ⟨_, cap, h1⟩
theorem row_at {w : World} {base : Nat} {e : TypeId} {a : Option Addr} {cap n : Nat} {xs : List Value} (h : w.ownsRow base e 1 (.slice a n cap) n xs) {k : Nat} {u : Value} (hk : xs[k]? = some u) : ∃ g, a = some ⟨g, 0, none⟩ ∧ w.cell? ⟨g, k, none⟩ = some u := by
  have hkl : k < n := by
    have h1 := h.1
    rcases Nat.lt_or_ge k xs.length with h2 | h2
    · omega
    · rw [List.getElem?_eq_none h2] at hk; cases hk
  rcases h.2 with ⟨h1, h2⟩ | ⟨g, cap', cur, h1, _⟩
  · omega
  · cases h1
    exact ⟨g, rfl, by rw [World.ownsRow.cellAt h k (by omega)]; exact hk⟩

set_option maxHeartbeats 2000000 in
theorem looks_any (D : Nat) (n : Int) (vi vh vn vm : Value) (Li Lh : List (Value × Int)) (w : World) (hd : w.heap[D]? = some (.cells #[.int .i64 n, vi, vh, vn, vm] 76 (0, 0)))
    (h1 : w.ownsRow 0 35 1 vi Li.length (Li.map (·.1))) (h2 : w.ownsRow 0 31 1 vh Lh.length (Lh.map (·.1))) (h3 : w.ownsRow 0 3 1 vn Li.length (Li.map fun p => .int .i64 p.2)) (h4 : w.ownsRow 0 3 1 vm Lh.length (Lh.map fun p => .int .i64 p.2))
    (hI : ∀ p ∈ Li, ReadsI w p.1 p.2) (hH : ∀ p ∈ Lh, ReadsH w p.1 p.2) (hli : Li.length ≤ 10000000000000) (hlh : Lh.length ≤ 10000000000000) :
    Calls Try.prog 26 #[.pointer (some ⟨D, 0, none⟩)] w fun e w' => e = .returned (.bool true) ∧ Below w.heap.size w w' := by
  obtain ⟨ai, ci, rfl⟩ := row_slice h1
  obtain ⟨ah, ch, rfl⟩ := row_slice h2
  obtain ⟨an, cn, rfl⟩ := row_slice h3
  obtain ⟨am, cm, rfl⟩ := row_slice h4
  have c1 : w.cell? ⟨D, 1, none⟩ = some (.slice ai Li.length ci) := by rw [cell_of_row w D 1 _ 76 (0, 0) hd]; rfl
  have c2 : w.cell? ⟨D, 2, none⟩ = some (.slice ah Lh.length ch) := by rw [cell_of_row w D 2 _ 76 (0, 0) hd]; rfl
  have c3 : w.cell? ⟨D, 3, none⟩ = some (.slice an Li.length cn) := by rw [cell_of_row w D 3 _ 76 (0, 0) hd]; rfl
  have c4 : w.cell? ⟨D, 4, none⟩ = some (.slice am Lh.length cm) := by rw [cell_of_row w D 4 _ 76 (0, 0) hd]; rfl
  have H1 : Hid (∀ (k : Nat) (p : Value × Int), Li[k]? = some p → ReadsI w p.1 p.2 ∧ (∃ g, ai = some ⟨g, 0, none⟩ ∧ w.cell? ⟨g, k, none⟩ = some p.1) ∧ ∃ g, an = some ⟨g, 0, none⟩ ∧ w.cell? ⟨g, k, none⟩ = some (.int .i64 p.2)) := fun k p hp =>
    ⟨hI p (List.mem_of_getElem? hp), row_at h1 (by rw [List.getElem?_map, hp]; rfl), row_at h3 (by rw [List.getElem?_map, hp]; rfl)⟩
  have H2 : Hid (∀ (k : Nat) (p : Value × Int), Lh[k]? = some p → ReadsH w p.1 p.2 ∧ (∃ g, ah = some ⟨g, 0, none⟩ ∧ w.cell? ⟨g, k, none⟩ = some p.1) ∧ ∃ g, am = some ⟨g, 0, none⟩ ∧ w.cell? ⟨g, k, none⟩ = some (.int .i64 p.2)) := fun k p hp =>
    ⟨hH p (List.mem_of_getElem? hp), row_at h2 (by rw [List.getElem?_map, hp]; rfl), row_at h4 (by rw [List.getElem?_map, hp]; rfl)⟩
  clear hI hH h1 h2 h3 h4 hd
  go_enter Try.func26, Try.ntmps26
  go_wp2
  go_loopw [3] (fun i wr => ∃ k : Nat, k ≤ Li.length ∧ i = .int .i64 k ∧ ∃ m, wr = w.drewN m) (fun i _ => Li.length - (intOf i).toNat)
  case atStart => exact ⟨0, Nat.zero_le _, rfl, 0, rfl⟩
  case round =>
    obtain ⟨k, hk, rfl, m, rfl⟩ := hrel
    by_cases hlt : k < Li.length
    · obtain ⟨⟨s, x⟩, hp⟩ : ∃ p, Li[k]? = some p := ⟨Li[k], List.getElem?_eq_getElem hlt⟩
      obtain ⟨⟨a, len, cap, hs, hlen, hr⟩, ⟨gi, rfl, q1⟩, ⟨gn, rfl, q2⟩⟩ := H1.out k (s, x) hp
      dsimp only at hs q1 q2 hr
      subst hs
      have HR : Hid (∀ i, i < len → ∃ g, a = some ⟨g, 0, none⟩ ∧ w.cell? ⟨g, i, none⟩ = some (.int .i64 x)) := hr
      clear hr hp
      go_wp2
      go_loopw [4] (fun i wr => ∃ j : Nat, j ≤ len ∧ i = .int .i64 j ∧ ∃ m, wr = w.drewN m) (fun i _ => len - (intOf i).toNat)
      case atStart => exact ⟨0, Nat.zero_le _, rfl, m, rfl⟩
      case round =>
        obtain ⟨j, hj, rfl, m2, rfl⟩ := hrel
        by_cases hjl : j < len
        · obtain ⟨g, rfl, q3⟩ := HR.out j hjl
          have hne : (x != x) = false := by simp
          go_wp2
          go_quiet (fail)
          go_wp2
          go_roundw
          case rel => exact ⟨j + 1, by omega, by go_num, _, rfl⟩
          case measure => simp [intOf]; omega
        · go_wp2
          go_roundw
          case rel => exact ⟨k + 1, by omega, by go_num, _, rfl⟩
          case measure => simp [intOf]; omega
    · go_wp2
      go_loopw [5] (fun i wr => ∃ k : Nat, k ≤ Lh.length ∧ i = .int .i64 k ∧ ∃ m, wr = w.drewN m) (fun i _ => Lh.length - (intOf i).toNat)
      case atStart => exact ⟨0, Nat.zero_le _, rfl, m, rfl⟩
      case round =>
        obtain ⟨k, hk, rfl, m, rfl⟩ := hrel
        by_cases hlt : k < Lh.length
        · obtain ⟨⟨s, x⟩, hp⟩ : ∃ p, Lh[k]? = some p := ⟨Lh[k], List.getElem?_eq_getElem hlt⟩
          obtain ⟨⟨a, len, cap, hs, hlen, hr⟩, ⟨gi, rfl, q1⟩, ⟨gn, rfl, q2⟩⟩ := H2.out k (s, x) hp
          dsimp only at hs q1 q2 hr
          subst hs
          have HR : Hid (∀ i, i < len → ∃ g, a = some ⟨g, 0, none⟩ ∧ w.cell? ⟨g, i * 2, none⟩ = some (.int .i64 x) ∧ w.cell? ⟨g, i * 2 + 1, none⟩ = some (.int .i64 x)) := hr
          clear hr hp
          go_wp2
          go_loopw [6] (fun i wr => ∃ j : Nat, j ≤ len ∧ i = .int .i64 j ∧ ∃ m, wr = w.drewN m) (fun i _ => len - (intOf i).toNat)
          case atStart => exact ⟨0, Nat.zero_le _, rfl, m, rfl⟩
          case round =>
            obtain ⟨j, hj, rfl, m2, rfl⟩ := hrel
            by_cases hjl : j < len
            · obtain ⟨g, rfl, q3, q4⟩ := HR.out j hjl
              have hne : (x != x) = false := by simp
              go_wp2
              go_quiet (fail)
              go_wp2
              go_roundw
              case rel => exact ⟨j + 1, by omega, by go_num, _, rfl⟩
              case measure => simp [intOf]; omega
            · go_wp2
              go_roundw
              case rel => exact ⟨k + 1, by omega, by go_num, _, rfl⟩
              case measure => simp [intOf]; omega
        · go_wp2
          go_ret
          exact ⟨rfl, below_drewN (Below.refl _ _) _⟩

end Go.Proofs.Ythkndfkkgncjfab

namespace Go.Proofs.Ythkndfkkgncjfab
open Go.RowKit
set_option maxRecDepth 100000

section
variable {P : Program} (w : World)

/-- what the row held that is x, it holds still; and the row itself can be read as it was -/
theorem run_append_fill (t ty : TypeId) (base : Nat) (e : TypeId) (i : TypeInfo) (z : Value) (size bytes : Nat) (ht : P.underlying t = some (.slice e)) (hi : P.info? e = some i) (hz : i.zero = some z)
    (hsize : i.size = size) (hby : i.bytes = bytes) (hzs : z.cells.size = size) (hsz : 0 < size)
    (v : Value) (n : Nat) (xs : List Value) (hown : w.ownsRow base e size v n xs)
    (ad : Addr) (m c : Nat) (news : List Value) (x : Value) (hl : news.length = m * size) (hnews : ∀ j u, news[j]? = some u → w.cell? (ad.add j) = some u) (h1 : ∀ u ∈ news, u.oneCell' = true) (hx : ∀ u ∈ news, u = x)
    (hm : 0 < m) (h63 : n + m ≤ maxLen) (hbytes : (n + m) * bytes ≤ 140737488355328) (hbase : base ≤ w.heap.size) (H : Nat) (hH : w.heap.size = H) :
    ∃ g cap w', (Builtin.append_ #[t, t] ty #[v, .slice (some ad) m c]).run P w = .ok (.slice (some ⟨g, 0, none⟩) (n + m) cap) w' ∧
      w'.ownsRow base e size (.slice (some ⟨g, 0, none⟩) (n + m) cap) (n + m) (xs ++ news) ∧ w'.ownsRow base e size v n xs ∧ w.grownBy w' v.ownBlock ∧ (v.ownBlock = some g ∨ g = H) ∧ g < w'.heap.size ∧
      ∀ b j, v.ownBlock = some b → w.cell? ⟨b, j, none⟩ = some x → w'.cell? ⟨b, j, none⟩ = some x := by
  obtain ⟨g, cap, w', hr, h2, h3, h4, h5⟩ := run_append_lies (P := P) w t ty base e i z size bytes ht hi hz hsize hby hzs hsz v n xs hown ad m c news hl hnews h1 hm h63 hbytes hbase H hH
  refine ⟨g, cap, w', hr, h2, ?_, h3, h4, h5, ?_⟩
  · rcases hown.2 with ⟨rfl, rfl⟩ | ⟨g0, cap0, cur, rfl, hb0, hg0, hn0, hc0, hs0, ht0⟩
    · exact ⟨hown.1, .inl ⟨rfl, rfl⟩⟩
    · rcases Nat.lt_or_ge cap0 (n + m) with hc | hc
      · obtain ⟨v'', w'', hr2, _, q2⟩ := run_append_arg_grows (P := P) w t ty e i z size bytes ht hi hz hsize hby hzs hsz ⟨g0, 0, none⟩ n cap0 xs hown.1 (World.ownsRow.cells hown rfl) ad m c news hl hnews hc h63 hbytes
        rw [hr] at hr2
        cases hr2
        exact World.ownsRow.kept hown q2 (.inr (by simp [Value.ownBlock]))
      · have hr2 := run_append_room (P := P) w t ty e i ht hi g0 n cap0 cur hg0 ad m c news (by rw [hsize]; exact hl) hnews h1 hc (by rw [hsize, hl, hs0, ← Nat.add_mul]; exact Nat.mul_le_mul_right _ hc)
        rw [hr, hsize] at hr2
        cases hr2
        refine ⟨hown.1, .inr ⟨_, _, _, rfl, hb0, setRow_heap w _ cur _ e (0, 0) hg0, hn0, hc0, ?_, ?_⟩⟩
        · have hle : n * size + m * size ≤ cap * size := by rw [← Nat.add_mul]; exact Nat.mul_le_mul_right _ hc
          have hsc : cur.toList.length = cap * size := by rw [Array.length_toList, hs0]
          show (List.toArray _).size = _
          rw [List.size_toArray, List.length_append, List.length_append, List.length_take, List.length_drop, hsc, hl]
          omega
        · have hle : n * size ≤ cur.toList.length := by rw [Array.length_toList, hs0]; exact Nat.mul_le_mul_right _ hn0
          simp only [List.append_assoc]
          rw [List.take_append_of_le_length (by rw [List.length_take]; omega), List.take_take, Nat.min_self]
          exact ht0
  · intro b j hb hcell
    rcases hown.2 with ⟨rfl, rfl⟩ | ⟨g0, cap0, cur, rfl, hb0, hg0, hn0, hc0, hs0, ht0⟩
    · simp [Value.ownBlock] at hb
    · simp [Value.ownBlock] at hb
      subst hb
      rcases Nat.lt_or_ge cap0 (n + m) with hc | hc
      · obtain ⟨v'', w'', hr2, _, q2⟩ := run_append_arg_grows (P := P) w t ty e i z size bytes ht hi hz hsize hby hzs hsz ⟨g0, 0, none⟩ n cap0 xs hown.1 (World.ownsRow.cells hown rfl) ad m c news hl hnews hc h63 hbytes
        rw [hr] at hr2
        cases hr2
        exact World.grownBy.cell q2 hcell (by simp)
      · have hr2 := run_append_room (P := P) w t ty e i ht hi g0 n cap0 cur hg0 ad m c news (by rw [hsize]; exact hl) hnews h1 hc (by rw [hsize, hl, hs0, ← Nat.add_mul]; exact Nat.mul_le_mul_right _ hc)
        rw [hr, hsize] at hr2
        cases hr2
        rw [cell_setRow_same w _ j cur _ e (0, 0) hg0]
        rw [cell_of_row w _ j cur e (0, 0) hg0] at hcell
        have hle : n * size ≤ cur.toList.length := by rw [Array.length_toList, hs0]; exact Nat.mul_le_mul_right _ hn0
        have hct : cur.toList[j]? = some x := by simpa using hcell
        have hlt : (cur.toList.take (n * size)).length = n * size := by rw [List.length_take]; omega
        show (List.toArray _)[j]? = some x
        rw [List.getElem?_toArray, List.append_assoc, List.getElem?_append, hlt]
        split
        · rename_i hj
          rw [List.getElem?_take, if_pos hj]; exact hct
        · rename_i hj
          rw [List.getElem?_append]
          split
          · rename_i hj2
            have hget : news[j - n * size]? = some news[j - n * size] := List.getElem?_eq_getElem hj2
            rw [hget, hx _ (List.getElem_mem hj2)]
          · rename_i hj2
            rw [List.getElem?_drop]
            rw [show n * size + news.length + (j - n * size - news.length) = j by omega]
            exact hct

theorem wp_append_fill {o : Oper} {a : Act} {K : Act → World → Prop} {Q : Exit → Act → World → Prop} (s x0 : Operand) (t : TypeId)
    (ho : o.op = .call { callee := .builtin .append, args := #[s, x0], argTypes := #[t, t] })
    (base : Nat) (e : TypeId) (i : TypeInfo) (z : Value) (size bytes : Nat) (ht : P.underlying t = some (.slice e)) (hi : P.info? e = some i) (hz : i.zero = some z)
    (hsize : i.size = size) (hby : i.bytes = bytes) (hzs : z.cells.size = size) (hsz : 0 < size)
    (v : Value) (n : Nat) (xs : List Value) (hs : a.eval s = v) (hown : w.ownsRow base e size v n xs)
    (ad : Addr) (m c : Nat) (news : List Value) (x : Value) (hx0 : a.eval x0 = .slice (some ad) m c) (hl : news.length = m * size) (hnews : ∀ j u, news[j]? = some u → w.cell? (ad.add j) = some u) (h1 : ∀ u ∈ news, u.oneCell' = true) (hx : ∀ u ∈ news, u = x)
    (hm : 0 < m) (h63 : n + m ≤ maxLen) (hbytes : (n + m) * bytes ≤ 140737488355328) (hbase : base ≤ w.heap.size) (H : Nat) (hH : w.heap.size = H)
    (h : ∀ g cap w', w'.ownsRow base e size (.slice (some ⟨g, 0, none⟩) (n + m) cap) (n + m) (xs ++ news) → w'.ownsRow base e size v n xs → w.grownBy w' v.ownBlock → (v.ownBlock = some g ∨ g = H) → g < w'.heap.size →
      (∀ b j, v.ownBlock = some b → w.cell? ⟨b, j, none⟩ = some x → w'.cell? ⟨b, j, none⟩ = some x) → K (a.put o.dst (.slice (some ⟨g, 0, none⟩) (n + m) cap)) w') : o.wp P a w K Q := by
  obtain ⟨g, cap, w', hr, h2, h3, h4, h5, h6, h7⟩ := run_append_fill (P := P) w t o.type base e i z size bytes ht hi hz hsize hby hzs hsz v n xs hown ad m c news x hl hnews h1 hx hm h63 hbytes hbase H hH
  unfold Oper.wp execOp
  simp only [ho, resolve, invoke, builtin, Sem.run_bind, Sem.run_pure, Result.andThen_ok, List.map_toArray, List.map_cons, List.map_nil, hs, hx0, hr]
  exact h g cap w' h2 h3 h4 h5 h6 h7

theorem wpList_append_fill {ops : Array Oper} {rest : List Oper} {o : Oper} {a : Act} {Q : Exit → Act → World → Prop} (hgd : o.guard = none) (s x0 : Operand) (t : TypeId)
    (ho : o.op = .call { callee := .builtin .append, args := #[s, x0], argTypes := #[t, t] })
    (base : Nat) (e : TypeId) (i : TypeInfo) (z : Value) (size bytes : Nat) (ht : P.underlying t = some (.slice e)) (hi : P.info? e = some i) (hz : i.zero = some z)
    (hsize : i.size = size) (hby : i.bytes = bytes) (hzs : z.cells.size = size) (hsz : 0 < size)
    (v : Value) (n : Nat) (xs : List Value) (hs : a.eval s = v) (hown : w.ownsRow base e size v n xs)
    (ad : Addr) (m c : Nat) (news : List Value) (x : Value) (hx0 : a.eval x0 = .slice (some ad) m c) (hl : news.length = m * size) (hnews : ∀ j u, news[j]? = some u → w.cell? (ad.add j) = some u) (h1 : ∀ u ∈ news, u.oneCell' = true) (hx : ∀ u ∈ news, u = x)
    (hm : 0 < m) (h63 : n + m ≤ maxLen) (hbytes : (n + m) * bytes ≤ 140737488355328) (hbase : base ≤ w.heap.size) (H : Nat) (hH : w.heap.size = H)
    (h : ∀ g cap w', w'.ownsRow base e size (.slice (some ⟨g, 0, none⟩) (n + m) cap) (n + m) (xs ++ news) → w'.ownsRow base e size v n xs → w.grownBy w' v.ownBlock → (v.ownBlock = some g ∨ g = H) → g < w'.heap.size →
      (∀ b j, v.ownBlock = some b → w.cell? ⟨b, j, none⟩ = some x → w'.cell? ⟨b, j, none⟩ = some x) → wpList P ops Q rest (a.put o.dst (.slice (some ⟨g, 0, none⟩) (n + m) cap)) w') : wpList P ops Q (o :: rest) a w :=
  wpList_plain hgd fun _ hK => wp_append_fill w s x0 t ho base e i z size bytes ht hi hz hsize hby hzs hsz v n xs hs hown ad m c news x hx0 hl hnews h1 hx hm h63 hbytes hbase H hH fun g cap w' h2 h3 h4 h5 h6 h7 => hK _ _ (h g cap w' h2 h3 h4 h5 h6 h7)

theorem step_append_fill {ops : Array Oper} {o : Oper} {a : Act} {K : Act → World → Prop} {Q : Exit → Act → World → Prop} {E : Prop} (d : Nat) (hd : o.dst = some d) (hgd : o.guard = none) (s x0 : Operand) (t : TypeId)
    (ho : o.op = .call { callee := .builtin .append, args := #[s, x0], argTypes := #[t, t] })
    (base : Nat) (e : TypeId) (i : TypeInfo) (z : Value) (size bytes : Nat) (ht : P.underlying t = some (.slice e)) (hi : P.info? e = some i) (hz : i.zero = some z)
    (hsize : i.size = size) (hby : i.bytes = bytes) (hzs : z.cells.size = size) (hsz : 0 < size)
    (v : Value) (n : Nat) (xs : List Value) (hs : a.eval s = v) (hown : w.ownsRow base e size v n xs)
    (ad : Addr) (m c : Nat) (news : List Value) (x : Value) (hx0 : a.eval x0 = .slice (some ad) m c) (hl : news.length = m * size) (hnews : ∀ j u, news[j]? = some u → w.cell? (ad.add j) = some u) (h1 : ∀ u ∈ news, u.oneCell' = true) (hx : ∀ u ∈ news, u = x)
    (hm : 0 < m) (h63 : n + m ≤ maxLen) (hbytes : (n + m) * bytes ≤ 140737488355328) (hbase : base ≤ w.heap.size) (H : Nat) (hH : w.heap.size = H)
    (h : ∀ g cap w', w'.ownsRow base e size (.slice (some ⟨g, 0, none⟩) (n + m) cap) (n + m) (xs ++ news) → w'.ownsRow base e size v n xs → w.grownBy w' v.ownBlock → (v.ownBlock = some g ∨ g = H) → g < w'.heap.size →
      (∀ b j, v.ownBlock = some b → w.cell? ⟨b, j, none⟩ = some x → w'.cell? ⟨b, j, none⟩ = some x) → K (a.put (some d) (.slice (some ⟨g, 0, none⟩) (n + m) cap)) w') : 
    if Region.wanted o (yielded ops a.tmps) = true then Oper.wp P o a w K Q else E := by
  have hw : Region.wanted o (yielded ops a.tmps) = true := by simp [Region.wanted, hgd]
  rw [if_pos hw]
  exact wp_append_fill w s x0 t ho base e i z size bytes ht hi hz hsize hby hzs hsz v n xs hs hown ad m c news x hx0 hl hnews h1 hx hm h63 hbytes hbase H hH (fun g cap w' h2 h3 h4 h5 h6 h7 => by rw [hd]; exact h g cap w' h2 h3 h4 h5 h6 h7)
end

end Go.Proofs.Ythkndfkkgncjfab

namespace Go.Proofs.Ythkndfkkgncjfab
open Go.RowKit
set_option maxRecDepth 100000

/-- the drawer's own four rows: whose blocks -/
def Apart4 (D : Nat) (vi vh vn vm : Value) (g : Nat) : Prop := g ≠ D ∧ vi.ownBlock ≠ some g ∧ vh.ownBlock ≠ some g ∧ vn.ownBlock ≠ some g ∧ vm.ownBlock ≠ some g

/-- m times something was laid into it -/
structure DAt (m : Nat) (n : Int) (w : World) (D : Nat) (F : Nat → Prop) (vi vh vn vm : Value) (Li Lh : List (Value × Int)) : Prop where
  blk : w.heap[D]? = some (.cells #[.int .i64 n, vi, vh, vn, vm] 76 (0, 0))
  li : Li.length ≤ 4 * m
  lh : Lh.length ≤ 4 * m
  ri : w.ownsRow 0 35 1 vi Li.length (Li.map (·.1))
  rh : w.ownsRow 0 31 1 vh Lh.length (Lh.map (·.1))
  rn : w.ownsRow 0 3 1 vn Li.length (Li.map fun p => .int .i64 p.2)
  rm : w.ownsRow 0 3 1 vm Lh.length (Lh.map fun p => .int .i64 p.2)
  mine : F D
  bi : ∀ g, vi.ownBlock = some g → F g ∧ g ≠ D
  bh : ∀ g, vh.ownBlock = some g → F g ∧ g ≠ D
  bn : ∀ g, vn.ownBlock = some g → F g ∧ g ≠ D
  bm : ∀ g, vm.ownBlock = some g → F g ∧ g ≠ D ∧ vn.ownBlock ≠ some g
  ki : ∀ p ∈ Li, ReadsI w p.1 p.2 ∧ ∀ g, p.1.ownBlock = some g → F g ∧ Apart4 D vi vh vn vm g
  kh : ∀ p ∈ Lh, ReadsH w p.1 p.2 ∧ ∀ g, p.1.ownBlock = some g → F g ∧ Apart4 D vi vh vn vm g
  lt : ∀ k, F k → k < w.heap.size

def DS (m : Nat) (w : World) (D : Nat) (F : Nat → Prop) : Prop := m ≤ 2000000000000 ∧ ∃ vi vh vn vm Li Lh, DAt m (m : Int) w D F vi vh vn vm Li Lh

theorem ReadsI.same {w w' : World} {s : Value} {x : Int} (h : ReadsI w s x) (hf : ∀ g, s.ownBlock = some g → w'.heap[g]? = w.heap[g]?) : ReadsI w' s x := by
  obtain ⟨a, len, cap, rfl, hl, hr⟩ := h
  refine ⟨a, len, cap, rfl, hl, fun i hi => ?_⟩
  obtain ⟨g, rfl, hc⟩ := hr i hi
  exact ⟨g, rfl, by rw [World.cell?_of_block (a := ⟨g, i, none⟩) (hf g rfl)]; exact hc⟩
theorem ReadsH.same {w w' : World} {s : Value} {x : Int} (h : ReadsH w s x) (hf : ∀ g, s.ownBlock = some g → w'.heap[g]? = w.heap[g]?) : ReadsH w' s x := by
  obtain ⟨a, len, cap, rfl, hl, hr⟩ := h
  refine ⟨a, len, cap, rfl, hl, fun i hi => ?_⟩
  obtain ⟨g, rfl, hc, hc2⟩ := hr i hi
  exact ⟨g, rfl, by rw [World.cell?_of_block (a := ⟨g, i * 2, none⟩) (hf g rfl)]; exact hc, by rw [World.cell?_of_block (a := ⟨g, i * 2 + 1, none⟩) (hf g rfl)]; exact hc2⟩

theorem DAt.frame {m : Nat} {n : Int} {w w' : World} {D : Nat} {F : Nat → Prop} {vi vh vn vm : Value} {Li Lh : List (Value × Int)} (h : DAt m n w D F vi vh vn vm Li Lh) (hs : w.heap.size ≤ w'.heap.size) (hf : ∀ k, F k → w'.heap[k]? = w.heap[k]?) : DAt m n w' D F vi vh vn vm Li Lh where
  blk := (hf D h.mine).trans h.blk
  li := h.li
  lh := h.lh
  ri := row_same h.ri fun g hg => hf g (h.bi g hg).1
  rh := row_same h.rh fun g hg => hf g (h.bh g hg).1
  rn := row_same h.rn fun g hg => hf g (h.bn g hg).1
  rm := row_same h.rm fun g hg => hf g (h.bm g hg).1
  mine := h.mine
  bi := h.bi
  bh := h.bh
  bn := h.bn
  bm := h.bm
  ki p hp := ⟨(h.ki p hp).1.same fun g hg => hf g ((h.ki p hp).2 g hg).1, (h.ki p hp).2⟩
  kh p hp := ⟨(h.kh p hp).1.same fun g hg => hf g ((h.kh p hp).2 g hg).1, (h.kh p hp).2⟩
  lt k hk := Nat.lt_of_lt_of_le (h.lt k hk) hs

theorem DAt.wide {m : Nat} {n : Int} {w : World} {D : Nat} {F G : Nat → Prop} {vi vh vn vm : Value} {Li Lh : List (Value × Int)} (h : DAt m n w D F vi vh vn vm Li Lh) (hfg : ∀ k, F k → G k) (hg : ∀ k, G k → k < w.heap.size) : DAt m n w D G vi vh vn vm Li Lh where
  blk := h.blk
  li := h.li
  lh := h.lh
  ri := h.ri
  rh := h.rh
  rn := h.rn
  rm := h.rm
  mine := hfg _ h.mine
  bi g e := ⟨hfg _ (h.bi g e).1, (h.bi g e).2⟩
  bh g e := ⟨hfg _ (h.bh g e).1, (h.bh g e).2⟩
  bn g e := ⟨hfg _ (h.bn g e).1, (h.bn g e).2⟩
  bm g e := ⟨hfg _ (h.bm g e).1, (h.bm g e).2⟩
  ki p hp := ⟨(h.ki p hp).1, fun g e => ⟨hfg _ ((h.ki p hp).2 g e).1, ((h.ki p hp).2 g e).2⟩⟩
  kh p hp := ⟨(h.kh p hp).1, fun g e => ⟨hfg _ ((h.kh p hp).2 g e).1, ((h.kh p hp).2 g e).2⟩⟩
  lt := hg

theorem drawn_some (m : Nat) : Drawn (DS m) where
  lt h := by obtain ⟨_, _, _, _, _, _, _, h⟩ := h; exact h.lt
  frame h hs hf := by obtain ⟨hm, vi, vh, vn, vm, Li, Lh, h⟩ := h; exact ⟨hm, vi, vh, vn, vm, Li, Lh, h.frame hs hf⟩
  wide h hfg hg := by obtain ⟨hm, vi, vh, vn, vm, Li, Lh, h⟩ := h; exact ⟨hm, vi, vh, vn, vm, Li, Lh, h.wide hfg hg⟩
  looks h := by
    obtain ⟨hm, vi, vh, vn, vm, Li, Lh, h⟩ := h
    exact looks_any _ _ vi vh vn vm Li Lh _ h.blk h.ri h.rh h.rn h.rm (fun p hp => (h.ki p hp).1) (fun p hp => (h.kh p hp).1) (by have := h.li; omega) (by have := h.lh; omega)

theorem drawn_start (w : World) (D : Nat) (h : w.heap[D]? = some (.cells #[.int .i64 0, .slice none 0 0, .slice none 0 0, .slice none 0 0, .slice none 0 0] 76 (0, 0))) : DS 0 w D (fun k => k = D) :=
  ⟨Nat.zero_le _, _, _, _, _, [], [], {
    blk := h
    li := Nat.le_refl _
    lh := Nat.le_refl _
    ri := World.ownsRow_nil _ _ _ _
    rh := World.ownsRow_nil _ _ _ _
    rn := World.ownsRow_nil _ _ _ _
    rm := World.ownsRow_nil _ _ _ _
    mine := rfl
    bi := fun g e => by simp [Value.ownBlock] at e
    bh := fun g e => by simp [Value.ownBlock] at e
    bn := fun g e => by simp [Value.ownBlock] at e
    bm := fun g e => by simp [Value.ownBlock] at e
    ki := fun p hp => by simp at hp
    kh := fun p hp => by simp at hp
    lt := fun k hk => by rw [hk]; exact lt_of_block h }⟩

/-- its number turned -/
theorem DAt.count {m : Nat} {n : Int} {w : World} {D : Nat} {F : Nat → Prop} {vi vh vn vm : Value} {Li Lh : List (Value × Int)} (h : DAt m n w D F vi vh vn vm Li Lh) (n' : Int) : DAt m n' (w.setCell ⟨D, 0, none⟩ (.int .i64 n')) D F vi vh vn vm Li Lh := by
  have hs : ∀ k, k ≠ D → (w.setCell ⟨D, 0, none⟩ (.int .i64 n')).heap[k]? = w.heap[k]? := fun k hk => Below.heap_setCell w ⟨D, 0, none⟩ _ k hk
  exact {
    blk := (heap_setCell_same w D 0 _ 76 _ h.blk).trans rfl
    li := h.li
    lh := h.lh
    ri := row_same h.ri fun g hg => hs g (h.bi g hg).2
    rh := row_same h.rh fun g hg => hs g (h.bh g hg).2
    rn := row_same h.rn fun g hg => hs g (h.bn g hg).2
    rm := row_same h.rm fun g hg => hs g (h.bm g hg).2.1
    mine := h.mine
    bi := h.bi
    bh := h.bh
    bn := h.bn
    bm := h.bm
    ki := fun p hp => ⟨(h.ki p hp).1.same fun g hg => hs g ((h.ki p hp).2 g hg).2.1, (h.ki p hp).2⟩
    kh := fun p hp => ⟨(h.kh p hp).1.same fun g hg => hs g ((h.kh p hp).2 g hg).2.1, (h.kh p hp).2⟩
    lt := fun k hk => by simpa using h.lt k hk }
theorem DAt.c0 {m : Nat} {n : Int} {w : World} {D : Nat} {F : Nat → Prop} {vi vh vn vm : Value} {Li Lh : List (Value × Int)} (h : DAt m n w D F vi vh vn vm Li Lh) : w.cell? ⟨D, 0, none⟩ = some (.int .i64 n) := by rw [cell_of_row w D 0 _ 76 (0, 0) h.blk]; rfl
theorem DAt.c1 {m : Nat} {n : Int} {w : World} {D : Nat} {F : Nat → Prop} {vi vh vn vm : Value} {Li Lh : List (Value × Int)} (h : DAt m n w D F vi vh vn vm Li Lh) : w.cell? ⟨D, 1, none⟩ = some vi := by rw [cell_of_row w D 1 _ 76 (0, 0) h.blk]; rfl
theorem DAt.c3 {m : Nat} {n : Int} {w : World} {D : Nat} {F : Nat → Prop} {vi vh vn vm : Value} {Li Lh : List (Value × Int)} (h : DAt m n w D F vi vh vn vm Li Lh) : w.cell? ⟨D, 3, none⟩ = some vn := by rw [cell_of_row w D 3 _ 76 (0, 0) h.blk]; rfl
theorem DAt.free {m : Nat} {n : Int} {w : World} {D : Nat} {F : Nat → Prop} {vi vh vn vm : Value} {Li Lh : List (Value × Int)} (h : DAt m n w D F vi vh vn vm Li Lh) (j : Nat) : w.frozen? ⟨D, j, none⟩ = false := frozen_of_row w D j _ 76 h.blk

end Go.Proofs.Ythkndfkkgncjfab

namespace Go.Proofs.Ythkndfkkgncjfab
open Go.RowKit
set_option maxRecDepth 100000

theorem Try.info26 : (Try.prog.info? 35).map (fun i => (i.zero, i.size, i.bytes)) = some (some (.slice none 0 0), 1, 24) := by kernel_rfl

/-- the drawer's block, whole -/
def DrAt (w : World) (D : Nat) (n : Int) (vi vh vn vm : Value) : Prop := w.heap[D]? = some (.cells #[.int .i64 n, vi, vh, vn, vm] 76 (0, 0))
theorem DrAt.lt {w : World} {D : Nat} {n : Int} {vi vh vn vm : Value} (h : DrAt w D n vi vh vn vm) : D < w.heap.size := lt_of_block h
theorem DrAt.c0 {w : World} {D : Nat} {n : Int} {vi vh vn vm : Value} (h : DrAt w D n vi vh vn vm) : w.cell? ⟨D, 0, none⟩ = some (.int .i64 n) := by rw [cell_of_row w D 0 _ 76 (0, 0) h]; rfl
theorem DrAt.c1 {w : World} {D : Nat} {n : Int} {vi vh vn vm : Value} (h : DrAt w D n vi vh vn vm) : w.cell? ⟨D, 1, none⟩ = some vi := by rw [cell_of_row w D 1 _ 76 (0, 0) h]; rfl
theorem DrAt.c3 {w : World} {D : Nat} {n : Int} {vi vh vn vm : Value} (h : DrAt w D n vi vh vn vm) : w.cell? ⟨D, 3, none⟩ = some vn := by rw [cell_of_row w D 3 _ 76 (0, 0) h]; rfl
theorem DrAt.free {w : World} {D : Nat} {n : Int} {vi vh vn vm : Value} (h : DrAt w D n vi vh vn vm) (j : Nat) : w.frozen? ⟨D, j, none⟩ = false := frozen_of_row w D j _ 76 h
theorem DrAt.below {w w' : World} {D : Nat} {n : Int} {vi vh vn vm : Value} (h : DrAt w D n vi vh vn vm) (hb : Below w.heap.size w w') : DrAt w' D n vi vh vn vm := (hb.block D h.lt).trans h
theorem DrAt.set0 {w : World} {D : Nat} {n : Int} {vi vh vn vm : Value} (h : DrAt w D n vi vh vn vm) (m : Int) : DrAt (w.setCell ⟨D, 0, none⟩ (.int .i64 m)) D m vi vh vn vm := (heap_setCell_same w D 0 _ 76 _ h).trans rfl
theorem DrAt.set1 {w : World} {D : Nat} {n : Int} {vi vh vn vm : Value} (h : DrAt w D n vi vh vn vm) (v : Value) : DrAt (w.setCell ⟨D, 1, none⟩ v) D n v vh vn vm := (heap_setCell_same w D 1 _ 76 _ h).trans rfl
theorem DrAt.set3 {w : World} {D : Nat} {n : Int} {vi vh vn vm : Value} (h : DrAt w D n vi vh vn vm) (v : Value) : DrAt (w.setCell ⟨D, 3, none⟩ v) D n vi vh v vm := (heap_setCell_same w D 3 _ 76 _ h).trans rfl
theorem DrAt.other {w : World} {D : Nat} {n : Int} {vi vh vn vm : Value} (h : DrAt w D n vi vh vn vm) (a : Addr) (ha : a.block ≠ D) (u : Value) : DrAt (w.setCell a u) D n vi vh vn vm :=
  (Below.heap_setCell w a u D (fun e => ha e.symm)).trans h
theorem OwnI.far {w : World} {B g : Nat} {l : List Nat} (h : OwnI w B g l) (a : Addr) (ha : a.block ≠ g) (u : Value) : OwnI (w.setCell a u) B g l :=
  ownsRow_setCell_other h (fun e => ha (by simpa [Value.ownBlock] using e.symm)) u

/-- the law on an append that must grow, its place of landing written out -/
theorem step_grows_at {P : Program} {ops : Array Oper} {o : Oper} {a : Act} {w : World} {K : Act → World → Prop} {Q : Exit → Act → World → Prop} {E : Prop}
    (d : Nat) (hd : o.dst = some d) (hg : o.guard = none) (s x : Operand) (t : TypeId) (hop : o.op = Op.call { callee := Callee.builtin Builtin.append, args := #[s, x], argTypes := #[t, t] })
    (e : TypeId) (i : TypeInfo) (z : Value) (size bytes : Nat) (h1 : P.underlying t = some (.slice e)) (h2 : P.info? e = some i) (h3 : i.zero = some z) (h4 : i.size = size) (h5 : i.bytes = bytes) (h6 : z.cells.size = size) (h7 : 0 < size)
    (ao : Option Addr) (n cap : Nat) (olds : List Value) (hs : a.eval s = .slice ao n cap) (hnone : ao = none → n = 0 ∧ cap = 0) (hlo : olds.length = n * size) (holds : ∀ b, ao = some b → ∀ j u, olds[j]? = some u → w.cell? (b.add j) = some u)
    (ad : Addr) (m c : Nat) (news : List Value) (hx : a.eval x = .slice (some ad) m c) (hn : news.length = m * size) (hc : ∀ j u, news[j]? = some u → w.cell? (ad.add j) = some u) (h1c : ∀ u ∈ news, u.oneCell' = true)
    (hfull : cap < n + m) (b1 : n + m ≤ maxLen) (b2 : (n + m) * bytes ≤ 140737488355328)
    (hK : ∀ v' w', w'.ownsRow w.heap.size e size v' (n + m) (olds ++ news) → w.grownBy w' none → K (a.put (some d) v') w') :
    if Region.wanted o (yielded ops a.tmps) = true then Oper.wp P o a w K Q else E :=
  step_append_grows hg s x t hop e i z size bytes h1 h2 h3 h4 h5 h6 h7 ao n cap olds hs hnone hlo holds ad m c news hx hn hc h1c hfull b1 b2 (fun v' w' p q => by rw [hd]; exact hK v' w' p q)

theorem grow_below {w w' : World} {o : Obj} (h : (w.alloc o).grownBy w' none) : Below w.heap.size w w' :=
  ((Below.refl _ _).alloc (Nat.le_refl _) o).grown h (by simp) (by simp)

theorem grow_below' {w w' : World} {o : Obj} (h : (w.alloc o).drew.grownBy w' none) : Below w.heap.size w w' :=
  ((Below.refl _ _).alloc (Nat.le_refl _) o).drew.grown h (by simp) (by simp)
theorem held3_below {w W W' : World} {D : Nat} {v : Value} (hD : D < W.heap.size) (h : W.cell? ⟨D, 0, none⟩ = some v ∧ W.frozen? ⟨D, 3, none⟩ = false ∧ Below D w W) (hb : Below W.heap.size W W') : W'.cell? ⟨D, 0, none⟩ = some v ∧ W'.frozen? ⟨D, 3, none⟩ = false ∧ Below D w W' :=
  ⟨by rw [hb.cell hD]; exact h.1, by rw [hb.frozen hD]; exact h.2.1, h.2.2.trans (hb.mono (by omega))⟩
theorem cell_lt {W : World} {a : Addr} {v : Value} (h : W.cell? a = some v) : a.block < W.heap.size := World.block_lt_of_cell? W a h
theorem held3_alloc {w W : World} {D : Nat} {v : Value} (h : W.cell? ⟨D, 0, none⟩ = some v ∧ W.frozen? ⟨D, 3, none⟩ = false ∧ Below D w W) (o : Obj) : (W.alloc o).cell? ⟨D, 0, none⟩ = some v ∧ (W.alloc o).frozen? ⟨D, 3, none⟩ = false ∧ Below D w (W.alloc o) :=
  held3_below (cell_lt h.1) h ((Below.refl _ _).alloc (Nat.le_refl _) o)
theorem held3_grown {w W W' : World} {D : Nat} {v : Value} (h : W.cell? ⟨D, 0, none⟩ = some v ∧ W.frozen? ⟨D, 3, none⟩ = false ∧ Below D w W) (hg : W.grownBy W' none) : W'.cell? ⟨D, 0, none⟩ = some v ∧ W'.frozen? ⟨D, 3, none⟩ = false ∧ Below D w W' :=
  held3_below (cell_lt h.1) h ((Below.refl _ _).grown hg (Nat.le_refl _) (by simp))
theorem held3_set {w W : World} {D : Nat} {v : Value} (h : W.cell? ⟨D, 0, none⟩ = some v ∧ W.frozen? ⟨D, 3, none⟩ = false ∧ Below D w W) (u : Value) : (W.setCell ⟨D, 3, none⟩ u).cell? ⟨D, 0, none⟩ = some v ∧ (W.setCell ⟨D, 3, none⟩ u).frozen? ⟨D, 3, none⟩ = false ∧ Below D w (W.setCell ⟨D, 3, none⟩ u) :=
  ⟨by rw [World.cell?_setCell_other _ _ _ _ (by simp)]; exact h.1, by have := h.2.1; rw [World.frozen?_setCell]; exact this, h.2.2.setCell (p := ⟨D, 3, none⟩) (Nat.le_refl D) _⟩
theorem held_alloc {wa W : World} {D : Nat} {v : Value} (hD : D < wa.heap.size) (h : W.cell? ⟨D, 0, none⟩ = some v ∧ Below wa.heap.size wa W) (o : Obj) : (W.alloc o).cell? ⟨D, 0, none⟩ = some v ∧ Below wa.heap.size wa (W.alloc o) := by
  have hb : Below wa.heap.size wa (W.alloc o) := h.2.alloc h.2.size o
  exact ⟨by rw [hb.cell hD, ← h.2.cell hD]; exact h.1, hb⟩
theorem held_grown {wa W W' : World} {D : Nat} {v : Value} (hD : D < wa.heap.size) (h : W.cell? ⟨D, 0, none⟩ = some v ∧ Below wa.heap.size wa W) (hg : W.grownBy W' none) : W'.cell? ⟨D, 0, none⟩ = some v ∧ Below wa.heap.size wa W' := by
  have hb : Below wa.heap.size wa W' := h.2.grown hg h.2.size (by simp)
  exact ⟨by rw [hb.cell hD, ← h.2.cell hD]; exact h.1, hb⟩

set_option maxHeartbeats 1000000 in
theorem keep_own (D g : Nat) (l : List Nat) (w : World) (hl : l.length ≤ 1000) (ho : OwnI w (D + 1) g l) (hd : DrAt w D 0 (.slice none 0 0) (.slice none 0 0) (.slice none 0 0) (.slice none 0 0)) :
    Calls Try.prog 48 #[.pointer (some ⟨D, 0, none⟩), .slice (some ⟨g, 0, none⟩) l.length l.length] w fun e w' => e = .returned (.tuple #[]) ∧ Below D w w' := by
  obtain ⟨i0, hi, hz0, hz1, hz2⟩ := info_parts Try.info3
  obtain ⟨i1, hj, hy0, hy1, hy2⟩ := info_parts Try.info26
  have hg := ho.base
  have c0 := hd.c0
  have f0 := hd.free 0
  go_enter Try.func48, Try.ntmps48
  go_wp2
  have hd1 := hd.set0 1
  have ho1 := ho.far ⟨D, 0, none⟩ (by show D ≠ g; omega) (.int .i64 1)
  have hb1 : Below D w (w.setCell ⟨D, 0, none⟩ (.int .i64 1)) := (Below.refl D w).setCell (p := ⟨D, 0, none⟩) (Nat.le_refl D) _
  clear c0 f0
  go_loopw [4] (fun i wr => ∃ k : Nat, k ≤ l.length ∧ i = .int .i64 k ∧ (∃ l1, l1.length = l.length ∧ OwnI wr (D + 1) g l1) ∧ DrAt wr D 1 (.slice none 0 0) (.slice none 0 0) (.slice none 0 0) (.slice none 0 0) ∧ Below D w wr) (fun i _ => l.length - (intOf i).toNat)
  case atStart => exact ⟨0, Nat.zero_le _, rfl, ⟨l, rfl, ho1⟩, hd1, hb1⟩
  case round =>
    obtain ⟨k, hk, rfl, ⟨l1, hl1, hw1⟩, hd2, hb2⟩ := hrel
    clear hd1 ho1 hb1 ho hd
    have c0 := hd2.c0
    by_cases hlt : k < l.length
    · have c2 := hw1.cell k (by omega)
      have f2 := hw1.free k
      go_wp2
      go_roundw
      case rel => exact ⟨k + 1, by omega, by go_num, ⟨l1.set k 1, by simpa using hl1, hw1.put k 1⟩, hd2.other _ (by show g ≠ D; omega) _, hb2.setCell (by show D ≤ g; omega) _⟩
      case measure => simp [intOf]; omega
    · have hbs := hb2.size
      have hds := hd2.lt
      go_wp2_with (at_builtin; refine wpList_append_grows _ rfl _ _ 35 rfl 3 i0 (.int .i64 0) 1 8 Try.underlying35 hi hz0 hz1 hz2 rfl (by decide) (some ⟨g, 0, none⟩) l.length l.length (I l1) rfl (by simp) (by simp [I_length, hl1]) (by intro b hb j u hu; cases hb; exact World.ownsRow.cells (World.ownsRow.alloc hw1 _) rfl j u hu) ⟨wr.heap.size, 0, none⟩ 1 1 [.int .i64 1] rfl rfl (cell_one_new _ _ _) (by intro u hu2; simp at hu2; subst hu2; rfl) (by omega) (by unfold maxLen; omega) (by omega) ?_; intro va wa howna hgrowa)
      obtain ⟨ga, capa, hva, _, _⟩ := howna.form (by omega)
      have hwa := grow_below hgrowa
      have hda := hd2.below hwa
      have hoa := hw1.below hwa
      have hba : Below D w wa := hb2.trans (hwa.mono (by omega))
      have hcd := hda.c0
      have hdl := hda.lt
      rw [hva]
      clear hva howna hgrowa hwa hd2 hw1 hb2 c0
      go_region_held_law (fun w' => w'.cell? ⟨D, 0, none⟩ = some (.int .i64 1) ∧ Below wa.heap.size wa w') (first | exact ⟨hcd, (Below.refl _ _).drew⟩ | exact held_alloc hdl (by assumption) _ | exact held_grown hdl (by assumption) (by assumption))
        ((refine step_grows_at 45 rfl rfl (.tmp 35) (.tmp 44) 35 rfl 3 i0 (.int .i64 0) 1 8 Try.underlying35 hi hz0 hz1 hz2 rfl (by decide) (some ⟨g, 0, none⟩) l.length l.length (I l1) (by simp [Act.eval]) (by simp) (by simp [I_length, hl1]) (by intro b hb j u hu; cases hb; exact World.ownsRow.cells (OwnI.below hoa (by assumption : _ ∧ Below wa.heap.size wa _).2) rfl j u hu) ⟨wa.heap.size, 0, none⟩ 2 2 [.int .i64 1, .int .i64 1] (by simp [Act.eval]) rfl (cell_two_new wa _ _ 3) (by intro u hu2; simp at hu2; subst hu2; rfl) (by omega) (by unfold maxLen; omega) (by omega) ?_; intro vb wb hownb hgrowb))
      go_wp2
      have hSb : wb.cell? ⟨D, 0, none⟩ = some (.int .i64 1) ∧ Below wa.heap.size wa wb := by assumption
      obtain ⟨gb, capb, hvb, _, _⟩ := hownb.form (by omega)
      rw [hvb]
      have hdb := hda.below hSb.2
      have hob := hoa.below hSb.2
      have hbb : Below D w wb := hba.trans (hSb.2.mono (by omega))
      have hce := hdb.c0
      have hdm := hdb.lt
      clear hvb hownb hgrowb hSb hda hoa hba hcd
      go_region_held_law (fun w' => w'.cell? ⟨D, 0, none⟩ = some (.int .i64 1) ∧ Below wb.heap.size wb w') (first | exact ⟨hce, (Below.refl _ _).drew⟩ | exact held_alloc hdm (by assumption) _ | exact held_grown hdm (by assumption) (by assumption))
        ((refine step_grows_at 60 rfl rfl (.tmp 46) (.tmp 59) 35 rfl 3 i0 (.int .i64 0) 1 8 Try.underlying35 hi hz0 hz1 hz2 rfl (by decide) (some ⟨g, 0, none⟩) l.length l.length (I l1) (by simp [Act.eval]) (by simp) (by simp [I_length, hl1]) (by intro b hb j u hu; cases hb; exact World.ownsRow.cells (OwnI.below hob (by assumption : _ ∧ Below wb.heap.size wb _).2) rfl j u hu) ⟨wb.heap.size, 0, none⟩ 3 3 [.int .i64 1, .int .i64 1, .int .i64 1] (by simp [Act.eval]) rfl (World.news_of_block (cs := #[.int .i64 1, .int .i64 1, .int .i64 1]) (heap_alloc_new wb _)) (by intro u hu2; simp at hu2; subst hu2; rfl) (by omega) (by unfold maxLen; omega) (by omega) ?_; intro vc wc hownc hgrowc))
      have hSc : wc.cell? ⟨D, 0, none⟩ = some (.int .i64 1) ∧ Below wb.heap.size wb wc := by assumption
      obtain ⟨gc, capc, hvc, _, _⟩ := hownc.form (by omega)
      rw [hvc]
      have hdc := hdb.below hSc.2
      have hbc : Below D w wc := hbb.trans (hSc.2.mono (by omega))
      have hcc := hdc.c1
      have hfc := hdc.free 1
      have hdn := hdc.lt
      clear hvc hownc hgrowc hSc hdb hob hbb hce
      go_wp2_with (at_builtin; refine wpList_append_grows _ rfl _ _ 73 rfl 35 i1 (.slice none 0 0) 1 24 Try.underlying73 hj hy0 hy1 hy2 rfl (by decide) none 0 0 [] rfl (by simp) rfl (by simp) ⟨wc.heap.size, 0, none⟩ 4 4 [.slice (some ⟨g, 0, none⟩) l.length l.length, .slice (some ⟨ga, 0, none⟩) (l.length + 1) capa, .slice (some ⟨gb, 0, none⟩) (l.length + 2) capb, .slice (some ⟨gc, 0, none⟩) (l.length + 3) capc] rfl rfl (World.news_of_block (heap_alloc_new wc _)) (by simp [Value.oneCell']) (by omega) (by unfold maxLen; omega) (by omega) ?_; intro ve we howne hgrowe; obtain ⟨ge, cape, hve, _, _⟩ := howne.form (by omega); rw [hve]; have hwe := grow_below hgrowe; have hde := hdc.below hwe; have hc1e := hde.c1; have hf1e := hde.free 1)
      have hwe : Below wc.heap.size wc we := grow_below (by assumption)
      have hde : DrAt we D 1 (.slice none 0 0) (.slice none 0 0) (.slice none 0 0) (.slice none 0 0) := hdc.below hwe
      have hbe : Below D w we := hbc.trans (hwe.mono (by omega))
      have hdf := hde.set1 (.slice (some ⟨ge, 0, none⟩) 4 cape)
      have hbf : Below D w (we.setCell ⟨D, 1, none⟩ (.slice (some ⟨ge, 0, none⟩) 4 cape)) := hbe.setCell (p := ⟨D, 1, none⟩) (Nat.le_refl D) _
      generalize we.setCell ⟨D, 1, none⟩ (.slice (some ⟨ge, 0, none⟩) 4 cape) = wf at *
      have hc0 := hdf.c0
      have hc3 := hdf.c3
      have hf3 := hdf.free 3
      have hdz := hdf.lt
      refine wp_region_held_drew (S := fun w' => w'.cell? ⟨D, 0, none⟩ = some (.int .i64 1) ∧ w'.frozen? ⟨D, 3, none⟩ = false ∧ Below D w w') (by kernel_rfl) ⟨hc0, hf3, hbf.drew⟩ (fun hHeld => ?_)
      refine wpAnyH_take (i := 0) (v := ?va0) rfl (by kernel_rfl) (by kernel_rfl) (by kernel_rfl) (fun _ _ _ h => h) (Or.inl ⟨by rfl, ?hya0⟩) (by assumption) ?resta0
      case hya0 => intro w hSw; (try dsimp only at hSw); go_simp; (try with_reducible rfl)
      simp only [Act.put]
      refine wpAnyH_take (i := 1) (v := ?va1) rfl (by kernel_rfl) (by kernel_rfl) (by kernel_rfl) (fun _ _ _ h => h) (Or.inl ⟨by rfl, ?hya1⟩) (by assumption) ?resta1
      case hya1 => intro w hSw; (try dsimp only at hSw); go_simp; (try with_reducible rfl)
      simp only [Act.put]
      refine wpAnyH_take (i := 2) (v := ?va2) rfl (by kernel_rfl) (by kernel_rfl) (by kernel_rfl) (fun _ _ _ h => h) (Or.inl ⟨by rfl, ?hya2⟩) (by assumption) ?resta2
      case hya2 => intro w hSw; (try dsimp only at hSw); go_simp; (try with_reducible rfl)
      simp only [Act.put]
      refine wpAnyH_take (i := 3) (v := ?va3) rfl (by kernel_rfl) (by kernel_rfl) (by kernel_rfl) (fun _ _ _ h => h) (Or.inl ⟨by rfl, ?hya3⟩) (by assumption) ?resta3
      case hya3 => intro w hSw; (try dsimp only at hSw); go_simp; (try with_reducible rfl)
      simp only [Act.put]
      refine wpAnyH_take (i := 5) (v := ?va5) rfl (by kernel_rfl) (by kernel_rfl) (by kernel_rfl) (fun _ _ _ h => h) (Or.inl ⟨by rfl, ?hya5⟩) (by assumption) ?resta5
      case hya5 => intro w hSw; (try dsimp only at hSw); go_simp; (try with_reducible rfl)
      simp only [Act.put]
      refine wpAnyH_take (i := 6) (v := ?va6) rfl (by kernel_rfl) (by kernel_rfl) (by kernel_rfl) (fun _ _ _ h => h) (Or.inl ⟨by rfl, ?hya6⟩) (by assumption) ?resta6
      case hya6 => intro w hSw; (try dsimp only at hSw); go_simp; (try with_reducible rfl)
      simp only [Act.put]
      refine wpAnyH_take (i := 7) (v := ?va7) rfl (by kernel_rfl) (by kernel_rfl) (by kernel_rfl) (fun _ _ _ h => h) (Or.inl ⟨by rfl, ?hya7⟩) (by assumption) ?resta7
      case hya7 => intro w hSw; (try dsimp only at hSw); go_simp; (try with_reducible rfl)
      simp only [Act.put]
      refine wpAnyH_take (i := 8) (v := ?va8) rfl (by kernel_rfl) (by kernel_rfl) (by kernel_rfl) (fun _ _ _ h => h) (Or.inl ⟨by rfl, ?hya8⟩) (by assumption) ?resta8
      case hya8 => intro w hSw; (try dsimp only at hSw); go_simp; (try with_reducible rfl)
      simp only [Act.put]
      refine wpAnyH_take (i := 9) (v := ?va9) rfl (by kernel_rfl) (by kernel_rfl) (by kernel_rfl) (fun _ _ _ h => h) (Or.inl ⟨by rfl, ?hya9⟩) (by assumption) ?resta9
      case hya9 => intro w hSw; (try dsimp only at hSw); go_simp; (try with_reducible rfl)
      simp only [Act.put]
      refine wpAnyH_take (i := 10) (v := ?va10) rfl (by kernel_rfl) (by kernel_rfl) (by kernel_rfl) (fun _ _ _ h => h) (Or.inl ⟨by rfl, ?hya10⟩) (by assumption) ?resta10
      case hya10 => intro w hSw; (try dsimp only at hSw); go_simp; (try with_reducible rfl)
      simp only [Act.put]
      refine wpAnyH_take (i := 11) (v := ?va11) rfl (by kernel_rfl) (by kernel_rfl) (by kernel_rfl) (fun _ _ _ h => h) (Or.inl ⟨by rfl, ?hya11⟩) (by assumption) ?resta11
      case hya11 => intro w hSw; (try dsimp only at hSw); go_simp; (try with_reducible rfl)
      simp only [Act.put]
      refine wpAnyH_take (i := 12) (v := ?va12) rfl (by kernel_rfl) (by kernel_rfl) (by kernel_rfl) (fun _ _ _ h => h) (Or.inl ⟨by rfl, ?hya12⟩) (by assumption) ?resta12
      case hya12 => intro w hSw; (try dsimp only at hSw); go_simp; (try with_reducible rfl)
      simp only [Act.put]
      refine wpAnyH_take (i := 13) (v := ?va13) rfl (by kernel_rfl) (by kernel_rfl) (by kernel_rfl) (fun _ _ _ h => h) (Or.inl ⟨by rfl, ?hya13⟩) (by assumption) ?resta13
      case hya13 => intro w hSw; (try dsimp only at hSw); go_simp; (try with_reducible rfl)
      simp only [Act.put]
      refine wpAnyH_take (i := 14) (v := ?va14) rfl (by kernel_rfl) (by kernel_rfl) (by kernel_rfl) (fun _ _ _ h => h) (Or.inl ⟨by rfl, ?hya14⟩) (by assumption) ?resta14
      case hya14 => intro w hSw; (try dsimp only at hSw); go_simp; (try with_reducible rfl)
      simp only [Act.put]
      refine wpAnyH_take (i := 15) (v := ?va15) rfl (by kernel_rfl) (by kernel_rfl) (by kernel_rfl) (fun _ _ _ h => h) (Or.inl ⟨by rfl, ?hya15⟩) (by assumption) ?resta15
      case hya15 => intro w hSw; (try dsimp only at hSw); go_simp; (try with_reducible rfl)
      simp only [Act.put]
      refine wpAnyH_take (i := 16) (v := ?va16) rfl (by kernel_rfl) (by kernel_rfl) (by kernel_rfl) (fun _ _ _ h => h) (Or.inl ⟨by rfl, ?hya16⟩) (by assumption) ?resta16
      case hya16 => intro w hSw; (try dsimp only at hSw); go_simp; (try with_reducible rfl)
      simp only [Act.put]
      refine wpAnyH_take (i := 17) (v := ?va17) rfl (by kernel_rfl) (by kernel_rfl) (by kernel_rfl) (fun _ _ _ h => h) (Or.inl ⟨by rfl, ?hya17⟩) (by assumption) ?resta17
      case hya17 => intro w hSw; (try dsimp only at hSw); go_simp; (try with_reducible rfl)
      simp only [Act.put]
      refine wpAnyH_take (i := 18) (v := ?va18) rfl (by kernel_rfl) (by kernel_rfl) (by kernel_rfl) (fun _ _ _ h => h) (Or.inl ⟨by rfl, ?hya18⟩) (by assumption) ?resta18
      case hya18 => intro w hSw; (try dsimp only at hSw); go_simp; (try with_reducible rfl)
      simp only [Act.put]
      refine wpAnyH_take (i := 19) (v := ?va19) rfl (by kernel_rfl) (by kernel_rfl) (by kernel_rfl) (fun _ _ _ h => h) (Or.inl ⟨by rfl, ?hya19⟩) (by assumption) ?resta19
      case hya19 => intro w hSw; (try dsimp only at hSw); go_simp; (try with_reducible rfl)
      simp only [Act.put]
      refine wpAnyH_take (i := 20) (v := ?va20) rfl (by kernel_rfl) (by kernel_rfl) (by kernel_rfl) (fun _ _ _ h => h) (Or.inl ⟨by rfl, ?hya20⟩) (by assumption) ?resta20
      case hya20 => intro w hSw; (try dsimp only at hSw); go_simp; (try with_reducible rfl)
      simp only [Act.put]
      refine wpAnyH_ready (rs := [4, 21]) (by kernel_rfl) (by simp) ?_
      refine AllReadyH.cons rfl (fun K hK => ?_) (AllReadyH.cons rfl (fun K hK => ?_) AllReadyH.nil)
      · go_simp
        refine hK.out _ _ (by exact hHeld) (fun hHeld => ?_)
        clear hK K
        refine wpAnyH_ready (rs := [21]) (by kernel_rfl) (by simp) ?_
        refine AllReadyH.cons rfl (fun K hK => ?_) AllReadyH.nil
        go_simp
        refine hK.out _ _ (by exact held3_alloc hHeld _) (fun hHeld => ?_)
        clear hK K
        refine wpAnyH_ready (rs := [22]) (by kernel_rfl) (by simp) ?_
        refine AllReadyH.cons rfl (fun K hK => ?_) AllReadyH.nil
        refine step_grows_at 96 rfl rfl (.tmp 78) (.tmp 95) 35 rfl 3 i0 (.int .i64 0) 1 8 Try.underlying35 hi hz0 hz1 hz2 rfl (by decide) none 0 0 [] (by simp [Act.eval]) (by simp) rfl (by simp) ⟨wf.heap.size, 0, none⟩ 4 4 [.int .i64 1, .int .i64 1, .int .i64 1, .int .i64 1] (by simp [Act.eval]) rfl (World.news_of_block (cs := #[.int .i64 1, .int .i64 1, .int .i64 1, .int .i64 1]) (heap_alloc_new wf _)) (by intro u hu2; simp at hu2; subst hu2; rfl) (by omega) (by unfold maxLen; omega) (by omega) ?_
        intro vg wg howng hgrowg
        obtain ⟨gg, capg, hvg, _, _⟩ := howng.form (by omega)
        rw [hvg]
        have hc3g := (grow_below' hgrowg).cell (p := ⟨D, 3, none⟩) hdz
        rw [hc3] at hc3g
        refine hK.out _ _ (held3_grown hHeld hgrowg) (fun hHeld => ?_)
        clear hK K
        refine wpAnyH_take (i := 23) (v := ?vb23) rfl (by kernel_rfl) (by kernel_rfl) (by kernel_rfl) (fun _ _ _ h => h) (Or.inl ⟨by rfl, ?hyb23⟩) (by assumption) ?restb23
        case hyb23 => intro w hSw; (try dsimp only at hSw); go_simp; (try with_reducible rfl)
        simp only [Act.put]
        refine wpAnyH_take (i := 24) (v := ?vb24) rfl (by kernel_rfl) (by kernel_rfl) (by kernel_rfl) (fun _ _ _ h => h) (Or.inl ⟨by rfl, ?hyb24⟩) (by assumption) ?restb24
        case hyb24 => intro w hSw; (try dsimp only at hSw); go_simp; (try with_reducible rfl)
        simp only [Act.put]
        refine wpAnyH_ready (rs := [25]) (by kernel_rfl) (by simp) ?_
        refine AllReadyH.cons rfl (fun K hK => ?_) AllReadyH.nil
        go_simp
        refine hK.out _ _ (by exact held3_set hHeld _) (fun hHeld => ?_)
        clear hK K
        refine wpAnyH_done (by kernel_rfl) ?_ _
        go_wp2
        go_end0
        exact ⟨rfl, hHeld.2.2⟩
      · go_simp
        refine hK.out _ _ (by exact held3_alloc hHeld _) (fun hHeld => ?_)
        clear hK K
        refine wpAnyH_ready (rs := [4]) (by kernel_rfl) (by simp) ?_
        refine AllReadyH.cons rfl (fun K hK => ?_) AllReadyH.nil
        go_simp
        refine hK.out _ _ (by exact hHeld) (fun hHeld => ?_)
        clear hK K
        refine wpAnyH_ready (rs := [22]) (by kernel_rfl) (by simp) ?_
        refine AllReadyH.cons rfl (fun K hK => ?_) AllReadyH.nil
        refine step_grows_at 96 rfl rfl (.tmp 78) (.tmp 95) 35 rfl 3 i0 (.int .i64 0) 1 8 Try.underlying35 hi hz0 hz1 hz2 rfl (by decide) none 0 0 [] (by simp [Act.eval]) (by simp) rfl (by simp) ⟨wf.heap.size, 0, none⟩ 4 4 [.int .i64 1, .int .i64 1, .int .i64 1, .int .i64 1] (by simp [Act.eval]) rfl (World.news_of_block (cs := #[.int .i64 1, .int .i64 1, .int .i64 1, .int .i64 1]) (heap_alloc_new wf _)) (by intro u hu2; simp at hu2; subst hu2; rfl) (by omega) (by unfold maxLen; omega) (by omega) ?_
        intro vg wg howng hgrowg
        obtain ⟨gg, capg, hvg, _, _⟩ := howng.form (by omega)
        rw [hvg]
        have hc3g := (grow_below' hgrowg).cell (p := ⟨D, 3, none⟩) hdz
        rw [hc3] at hc3g
        refine hK.out _ _ (held3_grown hHeld hgrowg) (fun hHeld => ?_)
        clear hK K
        refine wpAnyH_take (i := 23) (v := ?vc23) rfl (by kernel_rfl) (by kernel_rfl) (by kernel_rfl) (fun _ _ _ h => h) (Or.inl ⟨by rfl, ?hyc23⟩) (by assumption) ?restc23
        case hyc23 => intro w hSw; (try dsimp only at hSw); go_simp; (try with_reducible rfl)
        simp only [Act.put]
        refine wpAnyH_take (i := 24) (v := ?vc24) rfl (by kernel_rfl) (by kernel_rfl) (by kernel_rfl) (fun _ _ _ h => h) (Or.inl ⟨by rfl, ?hyc24⟩) (by assumption) ?restc24
        case hyc24 => intro w hSw; (try dsimp only at hSw); go_simp; (try with_reducible rfl)
        simp only [Act.put]
        refine wpAnyH_ready (rs := [25]) (by kernel_rfl) (by simp) ?_
        refine AllReadyH.cons rfl (fun K hK => ?_) AllReadyH.nil
        go_simp
        refine hK.out _ _ (by exact held3_set hHeld _) (fun hHeld => ?_)
        clear hK K
        refine wpAnyH_done (by kernel_rfl) ?_ _
        go_wp2
        go_end0
        exact ⟨rfl, hHeld.2.2⟩

end Go.Proofs.Ythkndfkkgncjfab

namespace Go.Proofs.Ythkndfkkgncjfab
open Go.RowKit
set_option maxRecDepth 100000

theorem lies_wide {P : Program} (w : World) (t ty : TypeId) (base : Nat) (e : TypeId) (i : TypeInfo) (z : Value) (size bytes : Nat) (ht : P.underlying t = some (.slice e)) (hi : P.info? e = some i) (hz : i.zero = some z)
    (hsize : i.size = size) (hby : i.bytes = bytes) (hzs : z.cells.size = size) (hsz : 0 < size)
    (v : Value) (n : Nat) (xs : List Value) (hown : w.ownsRow base e size v n xs)
    (ad : Addr) (m c : Nat) (news : List Value) (hl : news.length = m * size) (hnews : ∀ j u, news[j]? = some u → w.cell? (ad.add j) = some u) (h1 : ∀ u ∈ news, u.oneCell' = true)
    (hm : 0 < m) (h63 : n + m ≤ maxLen) (hbytes : ((n + m) + (n + m) / 4 + 192) * bytes ≤ 281474976710656) (hbase : base ≤ w.heap.size) :
    ∃ g cap w', (Builtin.append_ #[t, t] ty #[v, .slice (some ad) m c]).run P w = .ok (.slice (some ⟨g, 0, none⟩) (n + m) cap) w' ∧
      w'.ownsRow base e size (.slice (some ⟨g, 0, none⟩) (n + m) cap) (n + m) (xs ++ news) ∧ w.grownBy w' v.ownBlock ∧ (v.ownBlock = some g ∨ g = w.heap.size) ∧ g < w'.heap.size := by
  obtain ⟨v', w', hr, h2, h3, _⟩ := run_append_own_wide (P := P) w base t ty e i z size bytes ht hi hz hsize hby hzs hsz v n xs hown ad m c news hl hnews h1 h63 hbytes hbase
  obtain ⟨g, cap, rfl, _, hlt⟩ := h2.form (by omega)
  refine ⟨g, cap, w', hr, h2, h3, ?_, hlt⟩
  have hsmall : n + m ≤ 9223372036854775807 := by simp only [maxLen] at h63; omega
  subst hsize
  subst hby
  rcases hown.2 with ⟨rfl, rfl⟩ | ⟨g0, cap0, cur, rfl, _, hg, hnc, _, hcs, _⟩
  · right
    have hb : m * i.bytes ≤ 281474976710656 := Nat.le_trans (Nat.mul_le_mul_right _ (by omega)) hbytes
    have hr2 := run_append_nil (P := P) w t ty e i z ht hi hz ad m c news hl hnews (by omega) (by omega) hb
    rw [hr2] at hr
    injection hr with e1 _
    injection e1 with e2 _ _
    injection e2 with e3
    injection e3 with e4 _ _
    exact e4.symm
  · by_cases hroom : n + m ≤ cap0
    · left
      have hfit : n * i.size + news.length ≤ cur.size := by rw [hl, hcs, ← Nat.add_mul]; exact Nat.mul_le_mul_right _ hroom
      have hr2 := run_append_room (P := P) w t ty e i ht hi g0 n cap0 cur hg ad m c news hl hnews h1 hroom hfit
      rw [hr2] at hr
      injection hr with e1 _
      injection e1 with e2 _ _
      rw [e2]; rfl
    · right
      have holds : ∀ j u, xs[j]? = some u → w.cell? ((⟨g0, 0, none⟩ : Addr).add j) = some u := hown.cells (g := g0) rfl
      have hr2 := run_append_grow (P := P) w t ty e i z ht hi hz ⟨g0, 0, none⟩ n cap0 xs hown.1 holds ad m c news hl hnews (by omega) (by omega) (growslice_fits_wide (by omega) hbytes)
      rw [hr2] at hr
      injection hr with e1 _
      injection e1 with e2 _ _
      injection e2 with e3
      injection e3 with e4 _ _
      exact e4.symm

theorem wpList_lies_wide {P : Program} (w : World) {ops : Array Oper} {rest : List Oper} {o : Oper} {a : Act} {Q : Exit → Act → World → Prop} (hgd : o.guard = none) (s x : Operand) (t : TypeId)
    (ho : o.op = .call { callee := .builtin .append, args := #[s, x], argTypes := #[t, t] })
    (base : Nat) (e : TypeId) (i : TypeInfo) (z : Value) (size bytes : Nat) (ht : P.underlying t = some (.slice e)) (hi : P.info? e = some i) (hz : i.zero = some z)
    (hsize : i.size = size) (hby : i.bytes = bytes) (hzs : z.cells.size = size) (hsz : 0 < size)
    (v : Value) (n : Nat) (xs : List Value) (hs : a.eval s = v) (hown : w.ownsRow base e size v n xs)
    (ad : Addr) (m c : Nat) (news : List Value) (hx : a.eval x = .slice (some ad) m c) (hl : news.length = m * size) (hnews : ∀ j u, news[j]? = some u → w.cell? (ad.add j) = some u) (h1 : ∀ u ∈ news, u.oneCell' = true)
    (hm : 0 < m) (h63 : n + m ≤ maxLen) (hbytes : ((n + m) + (n + m) / 4 + 192) * bytes ≤ 281474976710656) (hbase : base ≤ w.heap.size) (H : Nat) (hH : w.heap.size = H)
    (h : ∀ g cap w', w'.ownsRow base e size (.slice (some ⟨g, 0, none⟩) (n + m) cap) (n + m) (xs ++ news) → w.grownBy w' v.ownBlock → (v.ownBlock = some g ∨ g = H) → g < w'.heap.size → wpList P ops Q rest (a.put o.dst (.slice (some ⟨g, 0, none⟩) (n + m) cap)) w') : wpList P ops Q (o :: rest) a w := by
  refine wpList_plain hgd fun K hK => ?_
  obtain ⟨g, cap, w', hr, h2, h3, h4, h5⟩ := lies_wide (P := P) w t o.type base e i z size bytes ht hi hz hsize hby hzs hsz v n xs hown ad m c news hl hnews h1 hm h63 hbytes hbase
  rw [hH] at h4
  unfold Oper.wp execOp
  simp only [ho, resolve, invoke, builtin, Sem.run_bind, Sem.run_pure, Result.andThen_ok, List.map_toArray, List.map_cons, List.map_nil, hs, hx, hr]
  exact hK _ _ (h g cap w' h2 h3 h4 h5)

end Go.Proofs.Ythkndfkkgncjfab

namespace Go.Proofs.Ythkndfkkgncjfab
open Go.RowKit
set_option maxRecDepth 100000

/-- the row of l, as far as it is written over -/
def Over (w : World) (B : Nat) (v : Value) (len k : Nat) (x : Int) : Prop := ∃ xs, w.ownsRow B 3 1 v len xs ∧ ∀ j, j < k → xs[j]? = some (.int .i64 x)

theorem Over.put {w : World} {B g len cap k : Nat} {x : Int} (h : Over w B (.slice (some ⟨g, 0, none⟩) len cap) len k x) (hk : k < len) : Over (w.setCell ⟨g, k, none⟩ (.int .i64 x)) B (.slice (some ⟨g, 0, none⟩) len cap) len (k + 1) x := by
  obtain ⟨xs, h1, h2⟩ := h
  refine ⟨_, (World.ownsRow.stored h1 k (.int .i64 x)).1, fun j hj => ?_⟩
  rw [List.getElem?_set]
  by_cases e : k = j
  · subst e
    have := h1.1
    rw [if_pos rfl, if_pos (by omega)]
  · rw [if_neg e]; exact h2 j (by omega)

theorem Over.all {w : World} {B len : Nat} {v : Value} {x : Int} (h : Over w B v len len x) : w.ownsRow B 3 1 v len (List.replicate len (.int .i64 x)) := by
  obtain ⟨xs, h1, h2⟩ := h
  have e : xs = List.replicate len (.int .i64 x) := by
    have hl := h1.1
    refine List.ext_getElem? (fun j => ?_)
    rcases Nat.lt_or_ge j len with hj | hj
    · rw [h2 j hj, List.getElem?_replicate, if_pos hj]
    · rw [List.getElem?_eq_none (by omega), List.getElem?_eq_none (by simpa using hj)]
  rw [← e]; exact h1

theorem kinds_apart3 {w : World} {v1 v2 : Value} {n1 n2 g : Nat} {x1 x2 : List Value} (h1 : w.ownsRow 0 3 1 v1 n1 x1) (h2 : w.ownsRow 0 35 1 v2 n2 x2) (e1 : v1.ownBlock = some g) (e2 : v2.ownBlock = some g) : False := by
  rcases h1.2 with ⟨rfl, _⟩ | ⟨g1, _, _, rfl, _, hg1, _⟩
  · simp [Value.ownBlock] at e1
  · rcases h2.2 with ⟨rfl, _⟩ | ⟨g2, _, _, rfl, _, hg2, _⟩
    · simp [Value.ownBlock] at e2
    · simp [Value.ownBlock] at e1 e2
      rw [e1] at hg1
      rw [e2, hg1] at hg2
      simp at hg2

theorem kinds_apartH {w : World} {v1 v2 : Value} {n1 n2 g : Nat} {x1 x2 : List Value} {t1 t2 : TypeId} (h1 : w.ownsRow 0 t1 1 v1 n1 x1) (h2 : w.ownsRow 0 t2 1 v2 n2 x2) (hne : t1 ≠ t2) (e1 : v1.ownBlock = some g) (e2 : v2.ownBlock = some g) : False := by
  rcases h1.2 with ⟨rfl, _⟩ | ⟨g1, _, _, rfl, _, hg1, _⟩
  · simp [Value.ownBlock] at e1
  · rcases h2.2 with ⟨rfl, _⟩ | ⟨g2, _, _, rfl, _, hg2, _⟩
    · simp [Value.ownBlock] at e2
    · simp [Value.ownBlock] at e1 e2
      rw [e1] at hg1
      rw [e2, hg1] at hg2
      simp at hg2
      exact hne hg2.2

/-- between the appends: the drawer, the list, and the lists made of it -/
structure Kp (m : Nat) (x : Int) (w0 w : World) (D : Nat) (F : Nat → Prop) (vi vh vn vm : Value) (Li Lh : List (Value × Int)) (v : Value) (len : Nat) (S : List Value) : Prop where
  dr : DAt m x w D F vi vh vn vm Li Lh
  row : w.ownsRow 0 3 1 v len (List.replicate len (.int .i64 x))
  only : Only (fun k => F k ∨ v.ownBlock = some k) w0 w
  reads : ∀ s ∈ S, ReadsI w s x ∧ ∀ g, s.ownBlock = some g → (v.ownBlock = some g ∨ w0.heap.size ≤ g) ∧ g < w.heap.size

theorem ReadsI.lt {w : World} {s : Value} {x : Int} (h : ReadsI w s x) : ∃ a len cap, s = .slice a len cap ∧ ∀ i, i < len → ∃ g, a = some ⟨g, 0, none⟩ ∧ g < w.heap.size := by
  obtain ⟨a, len, cap, rfl, _, hr⟩ := h
  refine ⟨a, len, cap, rfl, fun i hi => ?_⟩
  obtain ⟨g, e, hc⟩ := hr i hi
  exact ⟨g, e, World.block_lt_of_cell? w ⟨g, i, none⟩ hc⟩

theorem readsI_of_row {w : World} {g n cap : Nat} {xs : List Value} {x : Int} (h : w.ownsRow 0 3 1 (.slice (some ⟨g, 0, none⟩) n cap) n xs) (hx : ∀ u ∈ xs, u = .int .i64 x) (hn : n ≤ 1000000) : ReadsI w (.slice (some ⟨g, 0, none⟩) n cap) x := by
  refine ⟨_, n, cap, rfl, hn, fun i hi => ⟨g, rfl, ?_⟩⟩
  have hl := h.1
  rw [World.ownsRow.cellAt h i (by omega), List.getElem?_eq_getElem (by omega), hx _ (List.getElem_mem _)]

section
variable {m : Nat} {x : Int} {w0 W W0 W' : World} {D : Nat} {F : Nat → Prop} {vi vh vn vm : Value} {Li Lh : List (Value × Int)} {v : Value} {len : Nat} {S : List Value}

theorem Kp.quiet (h : Kp m x w0 W D F vi vh vn vm Li Lh v len S) (hb : Below W.heap.size W W') : Kp m x w0 W' D F vi vh vn vm Li Lh v len S where
  dr := h.dr.frame hb.size fun k hk => hb.block k (h.dr.lt k hk)
  row := row_same h.row fun g hg => hb.block g (World.ownsRow.lt h.row g hg).2
  only := h.only.trans (Only.of_below hb)
  reads s hs := ⟨(h.reads s hs).1.same fun g hg => hb.block g ((h.reads s hs).2 g hg).2, fun g hg => ⟨((h.reads s hs).2 g hg).1, Nat.lt_of_lt_of_le ((h.reads s hs).2 g hg).2 hb.size⟩⟩

/-- one append more -/
theorem Kp.next (h : Kp m x w0 W0 D F vi vh vn vm Li Lh v len S) (hv : ∀ g, v.ownBlock = some g → ¬ F g) {g cap k : Nat} {news : List Value} (hnew : ∀ u ∈ news, u = .int .i64 x) (hl : len + k ≤ 1000000)
    (h1 : W'.ownsRow 0 3 1 (.slice (some ⟨g, 0, none⟩) (len + k) cap) (len + k) (List.replicate len (.int .i64 x) ++ news)) (h2 : W'.ownsRow 0 3 1 v len (List.replicate len (.int .i64 x))) (hg : W0.grownBy W' v.ownBlock) (hat : v.ownBlock = some g ∨ g = W0.heap.size) (hlt : g < W'.heap.size)
    (hk : ∀ b j, v.ownBlock = some b → W0.cell? ⟨b, j, none⟩ = some (.int .i64 x) → W'.cell? ⟨b, j, none⟩ = some (.int .i64 x)) :
    Kp m x w0 W' D F vi vh vn vm Li Lh v len (S ++ [.slice (some ⟨g, 0, none⟩) (len + k) cap]) where
  dr := h.dr.frame hg.size fun q hq => hg.block q (h.dr.lt q hq) (fun e => hv q e.symm hq)
  row := h2
  only := h.only.trans (Only.grown hg (fun q hq => .inr hq))
  reads s hs := by
    rw [List.mem_append] at hs
    rcases hs with hs | hs
    · obtain ⟨hr, hw⟩ := h.reads s hs
      refine ⟨?_, fun q hq => ⟨(hw q hq).1, Nat.lt_of_lt_of_le (hw q hq).2 hg.size⟩⟩
      obtain ⟨a, n, c, rfl, hn, hc⟩ := hr
      refine ⟨a, n, c, rfl, hn, fun i hi => ?_⟩
      obtain ⟨b, rfl, hcell⟩ := hc i hi
      refine ⟨b, rfl, ?_⟩
      by_cases e : v.ownBlock = some b
      · exact hk b i e hcell
      · exact World.grownBy.cell hg hcell (fun e' => e e'.symm)
    · simp only [List.mem_singleton] at hs
      subst hs
      refine ⟨readsI_of_row h1 (fun u hu => ?_) hl, fun q hq => ?_⟩
      · rw [List.mem_append] at hu
        rcases hu with hu | hu
        · exact (List.mem_replicate.1 hu).2
        · exact hnew u hu
      · have e : q = g := by simpa [Value.ownBlock] using hq.symm
        subst e
        refine ⟨hat.imp id (fun e => by rw [e]; exact h.only.size), hlt⟩

/-- what is held through a region -/
def KS (m : Nat) (x : Int) (w0 : World) (D : Nat) (F : Nat → Prop) (vi vh vn vm : Value) (Li Lh : List (Value × Int)) (v : Value) (len : Nat) (S : List Value) (w : World) : Prop := w.cell? ⟨D, 0, none⟩ = some (.int .i64 x) ∧ Kp m x w0 w D F vi vh vn vm Li Lh v len S
theorem Kp.ks (h : Kp m x w0 W D F vi vh vn vm Li Lh v len S) : KS m x w0 D F vi vh vn vm Li Lh v len S W := ⟨h.dr.c0, h⟩
theorem KS.alloc (h : KS m x w0 D F vi vh vn vm Li Lh v len S W) (o : Obj) : KS m x w0 D F vi vh vn vm Li Lh v len S (W.alloc o) := (h.2.quiet ((Below.refl _ _).alloc (Nat.le_refl _) o)).ks
theorem Kp.drop {s : Value} (h : Kp m x w0 W D F vi vh vn vm Li Lh v len (S ++ [s])) : KS m x w0 D F vi vh vn vm Li Lh v len S W := Kp.ks ⟨h.dr, h.row, h.only, fun t ht => h.reads t (List.mem_append_left _ ht)⟩
end

/-- what is laid away at the end -/
theorem Kp.lay {m : Nat} {x : Int} {w wc we wg : World} {D : Nat} {F : Nat → Prop} {vi vh vn vm : Value} {Li Lh : List (Value × Int)} {v : Value} {len : Nat} {S : List Value} {ge cape gg capg : Nat} {o o0 : Obj}
    (hK : Kp m x w wc D F vi vh vn vm Li Lh v len S) (hm : m ≤ 1999999999998) (hx : (m : Int) + 1 = x) (hl : len ≤ 1000) (hF : ∀ k, F k → k < w.heap.size) (hv : ∀ g, v.ownBlock = some g → ¬ F g ∧ g < w.heap.size) (hS : S.length = 3)
    (e1 : we.ownsRow 0 35 1 (.slice (some ⟨ge, 0, none⟩) (Li.length + 4) cape) (Li.length + 4) (Li.map (·.1) ++ (v :: S))) (e2 : (wc.alloc o).grownBy we vi.ownBlock) (e3 : vi.ownBlock = some ge ∨ ge = wc.heap.size + 1) (e4 : ge < we.heap.size)
    (n1 : wg.ownsRow 0 3 1 (.slice (some ⟨gg, 0, none⟩) (Li.length + 4) capg) (Li.length + 4) ((Li.map fun p => .int .i64 p.2) ++ [.int .i64 x, .int .i64 x, .int .i64 x, .int .i64 x]))
    (n2 : (((we.setCell ⟨D, 1, none⟩ (.slice (some ⟨ge, 0, none⟩) (Li.length + 4) cape)).alloc o0).drew).grownBy wg vn.ownBlock) (n3 : vn.ownBlock = some gg ∨ gg = we.heap.size + 1) (n4 : gg < wg.heap.size) :
    Only (fun k => F k ∨ v.ownBlock = some k) w (wg.setCell ⟨D, 3, none⟩ (.slice (some ⟨gg, 0, none⟩) (Li.length + 4) capg)) ∧ ∃ G, DS (m + 1) (wg.setCell ⟨D, 3, none⟩ (.slice (some ⟨gg, 0, none⟩) (Li.length + 4) capg)) D G ∧ ∀ k, G k → F k ∨ v.ownBlock = some k ∨ w.heap.size ≤ k := by
  have hd := hK.dr
  have z1 := hK.only.size
  have z2 := e2.size
  have z3 := n2.size
  simp at z2
  have zf : (we.setCell ⟨D, 1, none⟩ (.slice (some ⟨ge, 0, none⟩) (Li.length + 4) cape)).heap.size = we.heap.size := by simp
  have z0 : (((we.setCell ⟨D, 1, none⟩ (.slice (some ⟨ge, 0, none⟩) (Li.length + 4) cape)).alloc o0).drew).heap.size = we.heap.size + 1 := by simp
  rw [z0] at z3
  have zz : (wg.setCell ⟨D, 3, none⟩ (.slice (some ⟨gg, 0, none⟩) (Li.length + 4) capg)).heap.size = wg.heap.size := by simp
  have hDl := hF D hd.mine
  have hviD : vi.ownBlock ≠ some D := fun e => (hd.bi D e).2 rfl
  have hvnD : vn.ownBlock ≠ some D := fun e => (hd.bn D e).2 rfl
  have same : ∀ k, k < wc.heap.size → k ≠ D → vi.ownBlock ≠ some k → vn.ownBlock ≠ some k → (wg.setCell ⟨D, 3, none⟩ (.slice (some ⟨gg, 0, none⟩) (Li.length + 4) capg)).heap[k]? = wc.heap[k]? := fun k hk h1 h2 h3 => by
    rw [Below.heap_setCell wg ⟨D, 3, none⟩ _ k h1, n2.block k (by rw [z0]; omega) (fun e => h3 e.symm)]
    show ((we.setCell ⟨D, 1, none⟩ (.slice (some ⟨ge, 0, none⟩) (Li.length + 4) cape)).alloc o0).heap[k]? = _
    rw [Below.heap_alloc _ o0 k (by rw [zf]; omega), Below.heap_setCell we ⟨D, 1, none⟩ _ k h1, e2.block k (by simp; omega) (fun e => h2 e.symm), Below.heap_alloc wc o k hk]
  have hwe : we.heap[D]? = some (.cells #[.int .i64 x, vi, vh, vn, vm] 76 (0, 0)) := by
    rw [e2.block D (by simp; omega) (fun e => hviD e.symm), Below.heap_alloc wc o D (by omega)]; exact hd.blk
  have hwf : (we.setCell ⟨D, 1, none⟩ (.slice (some ⟨ge, 0, none⟩) (Li.length + 4) cape)).heap[D]? = some (.cells #[.int .i64 x, .slice (some ⟨ge, 0, none⟩) (Li.length + 4) cape, vh, vn, vm] 76 (0, 0)) := (heap_setCell_same we D 1 _ 76 _ hwe).trans rfl
  have hwg : wg.heap[D]? = some (.cells #[.int .i64 x, .slice (some ⟨ge, 0, none⟩) (Li.length + 4) cape, vh, vn, vm] 76 (0, 0)) := by
    rw [n2.block D (by rw [z0]; omega) (fun e => hvnD e.symm)]
    show ((we.setCell ⟨D, 1, none⟩ (.slice (some ⟨ge, 0, none⟩) (Li.length + 4) cape)).alloc o0).heap[D]? = _
    rw [Below.heap_alloc _ o0 D (by rw [zf]; omega)]; exact hwf
  have hge : (F ge ∨ wc.heap.size < ge) ∧ ge ≠ D ∧ vn.ownBlock ≠ some ge := by
    rcases e3 with e | e
    · exact ⟨.inl (hd.bi ge e).1, (hd.bi ge e).2, fun e' => kinds_apart3 hd.rn hd.ri e' e⟩
    · exact ⟨.inr (by omega), by omega, fun e' => by have := hF ge (hd.bn ge e').1; omega⟩
  have hgg : (F gg ∨ we.heap.size < gg) ∧ gg ≠ D ∧ vm.ownBlock ≠ some gg := by
    rcases n3 with e | e
    · exact ⟨.inl (hd.bn gg e).1, (hd.bn gg e).2, fun e' => (hd.bm gg e').2.2 e⟩
    · exact ⟨.inr (by omega), by omega, fun e' => by have := hF gg (hd.bm gg e').1; omega⟩
  -- a block that is F's and apart from the old rows is apart from the new ones
  have ap : ∀ g, F g → Apart4 D vi vh vn vm g → Apart4 D (.slice (some ⟨ge, 0, none⟩) (Li.length + 4) cape) vh (.slice (some ⟨gg, 0, none⟩) (Li.length + 4) capg) vm g := fun g hg ⟨q1, q2, q3, q4, q5⟩ => by
    have hgl := hF g hg
    refine ⟨q1, fun e => ?_, q3, fun e => ?_, q5⟩
    · have e' : ge = g := by simpa [Value.ownBlock] using e
      rcases e3 with e3 | e3
      · rw [e'] at e3; exact q2 e3
      · omega
    · have e' : gg = g := by simpa [Value.ownBlock] using e
      rcases n3 with e3 | e3
      · rw [e'] at e3; exact q4 e3
      · omega
  -- and so is one that is none of F's
  have new : ∀ g, (v.ownBlock = some g ∨ w.heap.size ≤ g) → g < wc.heap.size → ¬ F g ∧ Apart4 D (.slice (some ⟨ge, 0, none⟩) (Li.length + 4) cape) vh (.slice (some ⟨gg, 0, none⟩) (Li.length + 4) capg) vm g := fun g h1 h2 => by
    have hnf : ¬ F g := fun hf => by
      rcases h1 with h1 | h1
      · exact (hv g h1).1 hf
      · have := hF g hf; omega
    refine ⟨hnf, fun e => hnf (by rw [e]; exact hd.mine), fun e => ?_, fun e => hnf (hd.bh g e).1, fun e => ?_, fun e => hnf (hd.bm g e).1⟩
    · have e' : ge = g := by simpa [Value.ownBlock] using e
      rcases hge.1 with h | h
      · exact hnf (by rw [← e']; exact h)
      · omega
    · have e' : gg = g := by simpa [Value.ownBlock] using e
      rcases hgg.1 with h | h
      · exact hnf (by rw [← e']; exact h)
      · omega
  have nf : ∀ g, ¬ F g → g ≠ D ∧ vi.ownBlock ≠ some g ∧ vn.ownBlock ≠ some g := fun g h => ⟨fun e => h (by rw [e]; exact hd.mine), fun e => h (hd.bi g e).1, fun e => h (hd.bn g e).1⟩
  have hvr : ReadsI wc v x := by
    obtain ⟨a, cap, rfl⟩ := row_slice hK.row
    refine ⟨a, len, cap, rfl, by omega, fun i hi => row_at hK.row ?_⟩
    rw [List.getElem?_replicate, if_pos hi]
  have each : ∀ s ∈ v :: S, ReadsI wc s x ∧ ∀ g, s.ownBlock = some g → (v.ownBlock = some g ∨ w.heap.size ≤ g) ∧ g < wc.heap.size := fun s hs => by
    rcases List.mem_cons.1 hs with rfl | hs
    · exact ⟨hvr, fun g e => ⟨.inl e, by have := (hv g e).2; omega⟩⟩
    · exact hK.reads s hs
  obtain ⟨sa, sb, sc, rfl⟩ : ∃ sa sb sc, S = [sa, sb, sc] := by
    match S, hS with
    | [sa, sb, sc], _ => exact ⟨sa, sb, sc, rfl⟩
  refine ⟨?_, fun k => F k ∨ v.ownBlock = some k ∨ (w.heap.size ≤ k ∧ k < wg.heap.size), ⟨by omega, .slice (some ⟨ge, 0, none⟩) (Li.length + 4) cape, vh, .slice (some ⟨gg, 0, none⟩) (Li.length + 4) capg, vm, Li ++ [(v, x), (sa, x), (sb, x), (sc, x)], Lh, ?_⟩, fun k hk => hk.imp id (fun h => h.imp id (fun h => h.1))⟩
  · refine hK.only.trans ((Only.of_below ((Below.refl _ _).alloc (Nat.le_refl _) o)).trans ?_)
    refine (Only.grown e2 (fun k hk => .inl (hd.bi k hk).1)).trans ((Only.setCell ⟨D, 1, none⟩ (.slice (some ⟨ge, 0, none⟩) (Li.length + 4) cape) (.inl hd.mine)).trans ?_)
    refine (Only.of_below (((Below.refl _ _).alloc (Nat.le_refl _) o0).drew)).trans ((Only.grown n2 (fun k hk => .inl (hd.bn k hk).1)).trans (Only.setCell ⟨D, 3, none⟩ _ (.inl hd.mine)))
  · have hx' : ((m + 1 : Nat) : Int) = x := by omega
    exact {
      blk := by rw [hx']; exact (heap_setCell_same wg D 3 _ 76 _ hwg).trans rfl
      li := by have := hd.li; simp; omega
      lh := by have := hd.lh; omega
      ri := by
        have : (Li ++ [(v, x), (sa, x), (sb, x), (sc, x)]).length = Li.length + 4 := by simp
        rw [this, List.map_append]
        refine row_same e1 fun g hg => ?_
        have e' : ge = g := by simpa [Value.ownBlock] using hg
        subst e'
        rw [Below.heap_setCell wg ⟨D, 3, none⟩ _ ge hge.2.1, n2.block ge (by rw [z0]; omega) (fun e => hge.2.2 e.symm)]
        show ((we.setCell ⟨D, 1, none⟩ (.slice (some ⟨ge, 0, none⟩) (Li.length + 4) cape)).alloc o0).heap[ge]? = _
        rw [Below.heap_alloc _ o0 ge (by rw [zf]; omega), Below.heap_setCell we ⟨D, 1, none⟩ _ ge hge.2.1]
      rh := row_same hd.rh fun g hg => same g (by have := hF g (hd.bh g hg).1; omega) (hd.bh g hg).2 (fun e => kinds_apartH hd.rh hd.ri (by decide) hg e) (fun e => kinds_apartH hd.rh hd.rn (by decide) hg e)
      rn := by
        have : (Li ++ [(v, x), (sa, x), (sb, x), (sc, x)]).length = Li.length + 4 := by simp
        rw [this, List.map_append]
        exact ownsRow_setCell_other n1 (by simpa [Value.ownBlock] using hgg.2.1) _
      rm := row_same hd.rm fun g hg => same g (by have := hF g (hd.bm g hg).1; omega) (hd.bm g hg).2.1 (fun e => kinds_apart3 hd.rm hd.ri hg e) (hd.bm g hg).2.2
      mine := .inl hd.mine
      bi := fun g e => by
        have e' : ge = g := by simpa [Value.ownBlock] using e
        subst e'
        exact ⟨hge.1.imp id (fun h => .inr ⟨by omega, by omega⟩), hge.2.1⟩
      bh := fun g e => ⟨.inl (hd.bh g e).1, (hd.bh g e).2⟩
      bn := fun g e => by
        have e' : gg = g := by simpa [Value.ownBlock] using e
        subst e'
        exact ⟨hgg.1.imp id (fun h => .inr ⟨by omega, by omega⟩), hgg.2.1⟩
      bm := fun g e => by
        refine ⟨.inl (hd.bm g e).1, (hd.bm g e).2.1, fun e' => ?_⟩
        have e2' : gg = g := by simpa [Value.ownBlock] using e'
        exact hgg.2.2 (by rw [e2']; exact e)
      ki := fun p hp => by
        rw [List.mem_append] at hp
        rcases hp with hp | hp
        · obtain ⟨q1, q2⟩ := hd.ki p hp
          refine ⟨q1.same fun g e => ?_, fun g e => ⟨.inl (q2 g e).1, ap g (q2 g e).1 (q2 g e).2⟩⟩
          obtain ⟨qf, qa⟩ := q2 g e
          exact same g (by have := hF g qf; omega) qa.1 qa.2.1 qa.2.2.2.1
        · have hp' : p.1 ∈ v :: [sa, sb, sc] ∧ p.2 = x := by
            simp only [List.mem_cons, List.not_mem_nil, or_false] at hp
            rcases hp with rfl | rfl | rfl | rfl <;> simp
          obtain ⟨q1, q2⟩ := each p.1 hp'.1
          rw [hp'.2]
          refine ⟨q1.same fun g e => ?_, fun g e => ?_⟩
          · obtain ⟨qb, ql⟩ := q2 g e
            have qn := nf g (new g qb ql).1
            exact same g ql qn.1 qn.2.1 qn.2.2
          · obtain ⟨qb, ql⟩ := q2 g e
            exact ⟨.inr (qb.imp id (fun h => ⟨h, by omega⟩)), (new g qb ql).2⟩
      kh := fun p hp => by
        obtain ⟨q1, q2⟩ := hd.kh p hp
        refine ⟨q1.same fun g e => ?_, fun g e => ⟨.inl (q2 g e).1, ap g (q2 g e).1 (q2 g e).2⟩⟩
        obtain ⟨qf, qa⟩ := q2 g e
        exact same g (by have := hF g qf; omega) qa.1 qa.2.1 qa.2.2.2.1
      lt := fun k hk => by
        rw [zz]
        rcases hk with hk | hk | hk
        · have := hF k hk; omega
        · have := (hv k hk).2; omega
        · exact hk.2 }

def S2 (D : Nat) (x : Int) (w : World) : Prop := w.cell? ⟨D, 0, none⟩ = some (.int .i64 x) ∧ w.frozen? ⟨D, 3, none⟩ = false
theorem s2_same {D : Nat} {x : Int} {W W' : World} (h : W.cell? ⟨D, 0, none⟩ = some (.int .i64 x) ∧ W.frozen? ⟨D, 3, none⟩ = false) (hb : W'.heap[D]? = W.heap[D]?) : W'.cell? ⟨D, 0, none⟩ = some (.int .i64 x) ∧ W'.frozen? ⟨D, 3, none⟩ = false :=
  ⟨(World.cell?_of_block (a := ⟨D, 0, none⟩) hb).trans h.1, (World.frozen?_of_block (a := ⟨D, 3, none⟩) hb).trans h.2⟩
theorem s2_alloc {D : Nat} {x : Int} {W : World} (h : W.cell? ⟨D, 0, none⟩ = some (.int .i64 x) ∧ W.frozen? ⟨D, 3, none⟩ = false) (o : Obj) : (W.alloc o).cell? ⟨D, 0, none⟩ = some (.int .i64 x) ∧ (W.alloc o).frozen? ⟨D, 3, none⟩ = false :=
  s2_same h (Below.heap_alloc W o D (World.block_lt_of_cell? W ⟨D, 0, none⟩ h.1))
theorem s2_set {D : Nat} {x : Int} {W : World} (h : W.cell? ⟨D, 0, none⟩ = some (.int .i64 x) ∧ W.frozen? ⟨D, 3, none⟩ = false) (u : Value) : (W.setCell ⟨D, 3, none⟩ u).cell? ⟨D, 0, none⟩ = some (.int .i64 x) ∧ (W.setCell ⟨D, 3, none⟩ u).frozen? ⟨D, 3, none⟩ = false :=
  ⟨by rw [World.cell?_setCell_other _ _ _ _ (by simp)]; exact h.1, by rw [World.frozen?_setCell]; exact h.2⟩

theorem stepK_lies {P : Program} (w : World) {ops : Array Oper} {o : Oper} {a : Act} {K : Act → World → Prop} {Q : Exit → Act → World → Prop} {E : Prop} (d : Nat) (hd : o.dst = some d) (hgd : o.guard = none) (s x : Operand) (t : TypeId)
    (ho : o.op = .call { callee := .builtin .append, args := #[s, x], argTypes := #[t, t] })
    (base : Nat) (e : TypeId) (i : TypeInfo) (z : Value) (size bytes : Nat) (ht : P.underlying t = some (.slice e)) (hi : P.info? e = some i) (hz : i.zero = some z)
    (hsize : i.size = size) (hby : i.bytes = bytes) (hzs : z.cells.size = size) (hsz : 0 < size)
    (v : Value) (n : Nat) (xs : List Value) (hs : a.eval s = v) (hown : w.ownsRow base e size v n xs)
    (ad : Addr) (m c : Nat) (news : List Value) (hx : a.eval x = .slice (some ad) m c) (hl : news.length = m * size) (hnews : ∀ j u, news[j]? = some u → w.cell? (ad.add j) = some u) (h1 : ∀ u ∈ news, u.oneCell' = true)
    (hm : 0 < m) (h63 : n + m ≤ maxLen) (hbytes : (n + m) * bytes ≤ 140737488355328) (hbase : base ≤ w.heap.size) (H : Nat) (hH : w.heap.size = H)
    (h : ∀ g cap w', w'.ownsRow base e size (.slice (some ⟨g, 0, none⟩) (n + m) cap) (n + m) (xs ++ news) → w.grownBy w' v.ownBlock → (v.ownBlock = some g ∨ g = H) → g < w'.heap.size → K (a.put (some d) (.slice (some ⟨g, 0, none⟩) (n + m) cap)) w') :
    if Region.wanted o (yielded ops a.tmps) = true then Oper.wp P o a w K Q else E :=
  step_append_lies w hgd s x t ho base e i z size bytes ht hi hz hsize hby hzs hsz v n xs hs hown ad m c news hx hl hnews h1 hm h63 hbytes hbase H hH (fun g cap w' p q r u => by rw [hd]; exact h g cap w' p q r u)

set_option maxHeartbeats 2000000 in
theorem keepI_any (m : Nat) (D : Nat) (F : Nat → Prop) (vi vh vn vm : Value) (Li Lh : List (Value × Int)) (v : Value) (len : Nat) (xs : List Value) (w : World) (hm : m ≤ 1999999999998) (hl : len ≤ 1000) (h : DAt m (m : Int) w D F vi vh vn vm Li Lh) (ho : w.ownsRow 0 3 1 v len xs) (hv : ∀ g, v.ownBlock = some g → ¬ F g) :
    Calls Try.prog 48 #[.pointer (some ⟨D, 0, none⟩), v] w fun e w' => e = .returned (.tuple #[]) ∧ Only (fun k => F k ∨ v.ownBlock = some k) w w' ∧ ∃ G, DS (m + 1) w' D G ∧ ∀ k, G k → F k ∨ v.ownBlock = some k ∨ w.heap.size ≤ k := by
  obtain ⟨i0, hi, hz0, hz1, hz2⟩ := info_parts Try.info3
  obtain ⟨i1, hj, hy0, hy1, hy2⟩ := info_parts Try.info26
  obtain ⟨av, cap, rfl⟩ := row_slice ho
  have HF : Hid (∀ k, F k → k < w.heap.size) := h.lt
  have HVL : Hid (∀ g, (Value.slice av len cap).ownBlock = some g → g < w.heap.size) := fun g e => (World.ownsRow.lt ho g e).2
  have c0 := h.c0
  have f0 := h.free 0
  have hwr : wrap64 ((m : Int) + 1) = (m : Int) + 1 := by unfold wrap64; omega
  go_enter Try.func48, Try.ntmps48
  go_wp2
  have h1 := h.count ((m : Int) + 1)
  have ho1 : (w.setCell ⟨D, 0, none⟩ (.int .i64 ((m : Int) + 1))).ownsRow 0 3 1 (.slice av len cap) len xs := ownsRow_setCell_other ho (fun e => hv _ e h.mine) _
  have hO1 : Only (fun k => F k ∨ (Value.slice av len cap).ownBlock = some k) w (w.setCell ⟨D, 0, none⟩ (.int .i64 ((m : Int) + 1))) := Only.setCell ⟨D, 0, none⟩ _ (.inl h.mine)
  clear c0 f0
  go_loopw [4] (fun i wr => ∃ k : Nat, k ≤ len ∧ i = .int .i64 k ∧ Over wr 0 (.slice av len cap) len k ((m : Int) + 1) ∧ DAt m ((m : Int) + 1) wr D F vi vh vn vm Li Lh ∧ Only (fun k => F k ∨ (Value.slice av len cap).ownBlock = some k) w wr) (fun i _ => len - (intOf i).toNat)
  case atStart => exact ⟨0, Nat.zero_le _, rfl, ⟨xs, ho1, fun j hj => by omega⟩, h1, hO1⟩
  case round =>
    obtain ⟨k, hk, rfl, hov, hd2, hO2⟩ := hrel
    clear h1 ho1 hO1 ho h
    have c0 := hd2.c0
    by_cases hlt : k < len
    · obtain ⟨g, rfl⟩ : ∃ g, av = some ⟨g, 0, none⟩ := by
        obtain ⟨xs1, q1, _⟩ := hov
        rcases q1.2 with ⟨_, h0⟩ | ⟨g, cap', cur, h1, _⟩
        · omega
        · cases h1; exact ⟨g, rfl⟩
      have hcell : ∃ u, wr.cell? ⟨g, k, none⟩ = some u ∧ wr.frozen? ⟨g, k, none⟩ = false := by
        obtain ⟨xs1, q1, _⟩ := hov
        have hq := q1.1
        refine ⟨xs1[k]'(by omega), ?_, ?_⟩
        · rw [World.ownsRow.cellAt q1 k (by omega)]; exact List.getElem?_eq_getElem (by omega)
        · rcases q1.2 with ⟨_, h0⟩ | ⟨g', cap', cur, h1, _, hgg, _⟩
          · omega
          · cases h1; exact frozen_of_row wr g k _ 3 hgg
      obtain ⟨u, c2, f2⟩ := hcell
      go_wp2
      go_roundw
      case rel =>
        exact ⟨k + 1, by omega, by go_num, hov.put hlt, hd2.frame (by simp) (fun q hq => Below.heap_setCell wr ⟨g, k, none⟩ _ q (fun e => hv g rfl (by have e' : q = g := e; rw [← e']; exact hq))), hO2.trans (Only.setCell ⟨g, k, none⟩ _ (.inr rfl))⟩
      case measure => simp [intOf]; omega
    · have hke : k = len := by omega
      subst hke
      generalize hxm : (m : Int) + 1 = x at *
      have hK : Kp m x w wr D F vi vh vn vm Li Lh (.slice av k cap) k [] := ⟨hd2, hov.all, hO2, by simp⟩
      have hrow := hK.row
      have HK : Hid (Kp m x w wr D F vi vh vn vm Li Lh (.slice av k cap) k []) := hK
      have HV : Hid (∀ g, (Value.slice av k cap).ownBlock = some g → ¬ F g) := hv
      clear hK hd2 hov hO2 hv
      go_wp2_with (at_builtin; refine wpList_append_fill _ rfl _ _ 35 rfl 0 3 i0 (.int .i64 0) 1 8 Try.underlying35 hi hz0 hz1 hz2 rfl (by decide) (.slice av k cap) k _ rfl (World.ownsRow.alloc hrow _) ⟨wr.heap.size, 0, none⟩ 1 1 [.int .i64 x] (.int .i64 x) rfl rfl (cell_one_new _ _ _) (by intro u hu2; simp at hu2; subst hu2; rfl) (by simp) (by decide) (by unfold maxLen; omega) (by omega) (Nat.zero_le _) (wr.heap.size + 1) (by simp) ?_; intro ga capa wa a1 a2 a3 a4 a5 a6)
      have hKa : Kp m x w wa D F vi vh vn vm Li Lh (.slice av k cap) k [.slice (some ⟨ga, 0, none⟩) (k + 1) capa] := Kp.next (HK.out.quiet ((Below.refl _ _).alloc (Nat.le_refl _) _)) HV.out (by simp) (by omega) a1 a2 a3 (by simpa using a4) a5 a6
      have HKa : Hid (KS m x w D F vi vh vn vm Li Lh (.slice av k cap) k [.slice (some ⟨ga, 0, none⟩) (k + 1) capa] wa) := hKa.ks
      have c0 := hKa.dr.c0
      have hsz : wa.heap.size = wa.heap.size := rfl
      clear hKa HK a1 a2 a3 a4 a5 a6 hrow
      obtain ⟨sa, hsa⟩ : ∃ sa, Value.slice (some ⟨ga, 0, none⟩) (k + 1) capa = sa := ⟨_, rfl⟩
      rw [hsa] at HKa
      rw [hsa]
      go_region_held_law (fun w' => w'.cell? ⟨D, 0, none⟩ = some (.int .i64 x) ∧ Kp m x w w' D F vi vh vn vm Li Lh (.slice av k cap) k [sa]) (first | exact (HKa.out.2.quiet ((Below.refl _ _).drew)).ks | exact KS.alloc (by assumption) _ | exact Kp.drop (by assumption))
        ((refine step_append_fill _ 45 rfl rfl (.tmp 35) (.tmp 44) 35 rfl 0 3 i0 (.int .i64 0) 1 8 Try.underlying35 hi hz0 hz1 hz2 rfl (by decide) (.slice av k cap) k _ (by simp [Act.eval]) (by assumption : _ ∧ Kp m x w _ D F vi vh vn vm Li Lh (.slice av k cap) k [sa]).2.row ⟨wa.heap.size, 0, none⟩ 2 2 [.int .i64 x, .int .i64 x] (.int .i64 x) (by simp [Act.eval]) rfl (cell_two_new wa _ _ 3) (by intro u hu2; simp at hu2; subst hu2; rfl) (by simp) (by decide) (by unfold maxLen; omega) (by omega) (Nat.zero_le _) (wa.heap.size + 1) (by simp) ?_; intro gb capb wb b1 b2 b3 b4 b5 b6; have hKb : Kp m x w wb D F vi vh vn vm Li Lh (.slice av k cap) k ([sa] ++ [.slice (some ⟨gb, 0, none⟩) (k + 2) capb]) := Kp.next (by assumption : _ ∧ Kp m x w _ D F vi vh vn vm Li Lh (.slice av k cap) k [sa]).2 HV.out (by simp) (by omega) b1 b2 b3 (by simpa using b4) b5 b6))
      go_wp2
      have hKb : Kp m x w wb D F vi vh vn vm Li Lh (.slice av k cap) k ([sa] ++ [.slice (some ⟨gb, 0, none⟩) (k + 2) capb]) := by assumption
      obtain ⟨sb, hsb⟩ : ∃ sb, Value.slice (some ⟨gb, 0, none⟩) (k + 2) capb = sb := ⟨_, rfl⟩
      rw [hsb] at hKb
      rw [hsb]
      have HKb : Hid (KS m x w D F vi vh vn vm Li Lh (.slice av k cap) k [sa, sb] wb) := hKb.ks
      have c0b := hKb.dr.c0
      clear hKb b1 b2 b3 b4 b5 b6 c0 HKa
      go_region_held_law (fun w' => w'.cell? ⟨D, 0, none⟩ = some (.int .i64 x) ∧ Kp m x w w' D F vi vh vn vm Li Lh (.slice av k cap) k [sa, sb]) (first | exact (HKb.out.2.quiet ((Below.refl _ _).drew)).ks | exact KS.alloc (by assumption) _ | exact Kp.drop (by assumption))
        ((refine step_append_fill _ 60 rfl rfl (.tmp 46) (.tmp 59) 35 rfl 0 3 i0 (.int .i64 0) 1 8 Try.underlying35 hi hz0 hz1 hz2 rfl (by decide) (.slice av k cap) k _ (by simp [Act.eval]) (by assumption : _ ∧ Kp m x w _ D F vi vh vn vm Li Lh (.slice av k cap) k [sa, sb]).2.row ⟨wb.heap.size, 0, none⟩ 3 3 [.int .i64 x, .int .i64 x, .int .i64 x] (.int .i64 x) (by simp [Act.eval]) rfl (World.news_of_block (cs := #[.int .i64 x, .int .i64 x, .int .i64 x]) (heap_alloc_new wb _)) (by intro u hu2; simp at hu2; subst hu2; rfl) (by simp) (by decide) (by unfold maxLen; omega) (by omega) (Nat.zero_le _) (wb.heap.size + 1) (by simp) ?_; intro gc capc wc d1 d2 d3 d4 d5 d6; have hKc : Kp m x w wc D F vi vh vn vm Li Lh (.slice av k cap) k ([sa, sb] ++ [.slice (some ⟨gc, 0, none⟩) (k + 3) capc]) := Kp.next (by assumption : _ ∧ Kp m x w _ D F vi vh vn vm Li Lh (.slice av k cap) k [sa, sb]).2 HV.out (by simp) (by omega) d1 d2 d3 (by simpa using d4) d5 d6))
      have hKc : Kp m x w wc D F vi vh vn vm Li Lh (.slice av k cap) k ([sa, sb] ++ [.slice (some ⟨gc, 0, none⟩) (k + 3) capc]) := by assumption
      subst hsa
      subst hsb
      have HKc : Hid (Kp m x w wc D F vi vh vn vm Li Lh (.slice av k cap) k [.slice (some ⟨ga, 0, none⟩) (k + 1) capa, .slice (some ⟨gb, 0, none⟩) (k + 2) capb, .slice (some ⟨gc, 0, none⟩) (k + 3) capc]) := hKc
      have cc1 := hKc.dr.c1
      have cf1 := hKc.dr.free 1
      have hri := hKc.dr.ri
      have hli := hKc.dr.li
      have hDl := hKc.dr.lt D hKc.dr.mine
      have hbi := hKc.dr.bi
      obtain ⟨ai, ci, hvi⟩ := row_slice hri
      clear hKc d1 d2 d3 d4 d5 d6 c0b HKb
      subst hvi
      go_wp2_with (at_builtin; refine wpList_lies_wide _ rfl _ _ 73 rfl 0 35 i1 (.slice none 0 0) 1 24 Try.underlying73 hj hy0 hy1 hy2 rfl (by decide) (.slice ai Li.length ci) Li.length (Li.map (·.1)) rfl (World.ownsRow.alloc hri _) ⟨wc.heap.size, 0, none⟩ 4 4 [.slice av k cap, .slice (some ⟨ga, 0, none⟩) (k + 1) capa, .slice (some ⟨gb, 0, none⟩) (k + 2) capb, .slice (some ⟨gc, 0, none⟩) (k + 3) capc] rfl rfl (World.news_of_block (heap_alloc_new wc _)) (by simp [Value.oneCell']) (by decide) (by unfold maxLen; omega) (by omega) (Nat.zero_le _) (wc.heap.size + 1) (by simp) ?_; intro ge cape we e1 e2 e3 e4; have hDe : we.heap[D]? = wc.heap[D]? := (e2.block D (by simp; omega) (fun e => (hbi D e.symm).2 rfl)).trans (Below.heap_alloc wc _ D hDl); have c1e : we.cell? ⟨D, 1, none⟩ = some (.slice ai Li.length ci) := (World.cell?_of_block (a := ⟨D, 1, none⟩) hDe).trans cc1; have f1e : we.frozen? ⟨D, 1, none⟩ = false := (World.frozen?_of_block (a := ⟨D, 1, none⟩) hDe).trans cf1)
      have hKd := HKc.out.dr
      have hwf : (we.setCell ⟨D, 1, none⟩ (.slice (some ⟨ge, 0, none⟩) (Li.length + 4) cape)).heap[D]? = some (.cells #[.int .i64 x, .slice (some ⟨ge, 0, none⟩) (Li.length + 4) cape, vh, vn, vm] 76 (0, 0)) := (heap_setCell_same we D 1 _ 76 _ (hDe.trans hKd.blk)).trans rfl
      have hwe := e2.size
      have hvnD : vn.ownBlock ≠ some D := fun e => (hKd.bn D e).2 rfl
      have hvni : ∀ g, vn.ownBlock = some g → g < wc.heap.size ∧ some g ≠ (Value.slice ai Li.length ci).ownBlock := fun g e => ⟨hKd.lt g (hKd.bn g e).1, fun e' => kinds_apart3 hKd.rn hKd.ri e e'.symm⟩
      have HRN : Hid (∀ W, Below (we.setCell ⟨D, 1, none⟩ (.slice (some ⟨ge, 0, none⟩) (Li.length + 4) cape)).heap.size (we.setCell ⟨D, 1, none⟩ (.slice (some ⟨ge, 0, none⟩) (Li.length + 4) cape)) W → W.ownsRow 0 3 1 vn Li.length (Li.map fun p => .int .i64 p.2)) := fun W hb => row_same hKd.rn fun g hg => by
        have hgl := (hvni g hg).1
        rw [hb.block g (by simp; simp at hwe; omega), Below.heap_setCell we ⟨D, 1, none⟩ _ g (fun e => hvnD (by have e' : g = D := e; rw [← e']; exact hg)), e2.block g (by simp; omega) (hvni g hg).2, Below.heap_alloc wc _ g hgl]
      have HFIN : Hid (∀ gg capg wg, wg.ownsRow 0 3 1 (.slice (some ⟨gg, 0, none⟩) (Li.length + 4) capg) (Li.length + 4) ((Li.map fun p => .int .i64 p.2) ++ [.int .i64 x, .int .i64 x, .int .i64 x, .int .i64 x]) → (((we.setCell ⟨D, 1, none⟩ (.slice (some ⟨ge, 0, none⟩) (Li.length + 4) cape)).alloc (.cells #[.int .i64 x, .int .i64 x, .int .i64 x, .int .i64 x] 3)).drew).grownBy wg vn.ownBlock → (vn.ownBlock = some gg ∨ gg = we.heap.size + 1) → gg < wg.heap.size →
          Only (fun q => F q ∨ (Value.slice av k cap).ownBlock = some q) w (wg.setCell ⟨D, 3, none⟩ (.slice (some ⟨gg, 0, none⟩) (Li.length + 4) capg)) ∧ ∃ G, DS (m + 1) (wg.setCell ⟨D, 3, none⟩ (.slice (some ⟨gg, 0, none⟩) (Li.length + 4) capg)) D G ∧ ∀ q, G q → F q ∨ (Value.slice av k cap).ownBlock = some q ∨ w.heap.size ≤ q) := fun gg capg wg n1 n2 n3 n4 => Kp.lay HKc.out hm hxm hl HF.out (fun g e => ⟨HV.out g e, HVL.out g e⟩) rfl e1 e2 e3 e4 n1 n2 n3 n4
      have hsf : (we.setCell ⟨D, 1, none⟩ (.slice (some ⟨ge, 0, none⟩) (Li.length + 4) cape)).heap.size = we.heap.size := by simp
      have hDf := lt_of_block hwf
      have c3f : (we.setCell ⟨D, 1, none⟩ (.slice (some ⟨ge, 0, none⟩) (Li.length + 4) cape)).cell? ⟨D, 3, none⟩ = some vn := by rw [cell_of_row _ D 3 _ 76 (0, 0) hwf]; rfl
      have c0f : (we.setCell ⟨D, 1, none⟩ (.slice (some ⟨ge, 0, none⟩) (Li.length + 4) cape)).cell? ⟨D, 0, none⟩ = some (.int .i64 x) := by rw [cell_of_row _ D 0 _ 76 (0, 0) hwf]; rfl
      have f3f : (we.setCell ⟨D, 1, none⟩ (.slice (some ⟨ge, 0, none⟩) (Li.length + 4) cape)).frozen? ⟨D, 3, none⟩ = false := frozen_of_row _ D 3 _ 76 hwf
      clear hwf hKd HKc hri hbi cc1 cf1 hDe c1e f1e e1 e2 e3 e4
      rw [← hsf] at HFIN
      generalize we.setCell ⟨D, 1, none⟩ (.slice (some ⟨ge, 0, none⟩) (Li.length + 4) cape) = wf at *
      have HDG : Hid (∀ wg, ((wf.alloc (.cells #[.int .i64 x, .int .i64 x, .int .i64 x, .int .i64 x] 3)).drew).grownBy wg vn.ownBlock → wg.heap[D]? = wf.heap[D]?) := fun wg n2 => (n2.block D (by simp; omega) (fun e => hvnD e.symm)).trans (Below.heap_alloc wf _ D hDf)
      have c3w : ((wf.alloc (.cells #[.int .i64 x, .int .i64 x, .int .i64 x, .int .i64 x] 3)).drew).cell? ⟨D, 3, none⟩ = some vn := (World.cell?_of_block (a := ⟨D, 3, none⟩) (Below.heap_alloc wf _ D hDf)).trans c3f
      have HS2 : Hid (wf.cell? ⟨D, 0, none⟩ = some (.int .i64 x) ∧ wf.frozen? ⟨D, 3, none⟩ = false) := ⟨c0f, f3f⟩
      refine wp_region_held_drew (S := fun w' => w'.cell? ⟨D, 0, none⟩ = some (.int .i64 x) ∧ w'.frozen? ⟨D, 3, none⟩ = false) (by kernel_rfl) ⟨c0f, f3f⟩ (fun hHeld => ?_)
      refine wpAnyH_take (i := 0) (v := ?a0) rfl (by kernel_rfl) (by kernel_rfl) (by kernel_rfl) (fun _ _ _ h => h) (Or.inl ⟨by rfl, ?hya0⟩) (by assumption) ?resta0
      case hya0 => intro w hSw; (try dsimp only at hSw); go_simp; (try with_reducible rfl)
      simp only [Act.put]
      refine wpAnyH_take (i := 1) (v := ?a1) rfl (by kernel_rfl) (by kernel_rfl) (by kernel_rfl) (fun _ _ _ h => h) (Or.inl ⟨by rfl, ?hya1⟩) (by assumption) ?resta1
      case hya1 => intro w hSw; (try dsimp only at hSw); go_simp; (try with_reducible rfl)
      simp only [Act.put]
      refine wpAnyH_take (i := 2) (v := ?a2) rfl (by kernel_rfl) (by kernel_rfl) (by kernel_rfl) (fun _ _ _ h => h) (Or.inl ⟨by rfl, ?hya2⟩) (by assumption) ?resta2
      case hya2 => intro w hSw; (try dsimp only at hSw); go_simp; (try with_reducible rfl)
      simp only [Act.put]
      refine wpAnyH_take (i := 3) (v := ?a3) rfl (by kernel_rfl) (by kernel_rfl) (by kernel_rfl) (fun _ _ _ h => h) (Or.inl ⟨by rfl, ?hya3⟩) (by assumption) ?resta3
      case hya3 => intro w hSw; (try dsimp only at hSw); go_simp; (try with_reducible rfl)
      simp only [Act.put]
      refine wpAnyH_take (i := 5) (v := ?a5) rfl (by kernel_rfl) (by kernel_rfl) (by kernel_rfl) (fun _ _ _ h => h) (Or.inl ⟨by rfl, ?hya5⟩) (by assumption) ?resta5
      case hya5 => intro w hSw; (try dsimp only at hSw); go_simp; (try with_reducible rfl)
      simp only [Act.put]
      refine wpAnyH_take (i := 6) (v := ?a6) rfl (by kernel_rfl) (by kernel_rfl) (by kernel_rfl) (fun _ _ _ h => h) (Or.inl ⟨by rfl, ?hya6⟩) (by assumption) ?resta6
      case hya6 => intro w hSw; (try dsimp only at hSw); go_simp; (try with_reducible rfl)
      simp only [Act.put]
      refine wpAnyH_take (i := 7) (v := ?a7) rfl (by kernel_rfl) (by kernel_rfl) (by kernel_rfl) (fun _ _ _ h => h) (Or.inl ⟨by rfl, ?hya7⟩) (by assumption) ?resta7
      case hya7 => intro w hSw; (try dsimp only at hSw); go_simp; (try with_reducible rfl)
      simp only [Act.put]
      refine wpAnyH_take (i := 8) (v := ?a8) rfl (by kernel_rfl) (by kernel_rfl) (by kernel_rfl) (fun _ _ _ h => h) (Or.inl ⟨by rfl, ?hya8⟩) (by assumption) ?resta8
      case hya8 => intro w hSw; (try dsimp only at hSw); go_simp; (try with_reducible rfl)
      simp only [Act.put]
      refine wpAnyH_take (i := 9) (v := ?a9) rfl (by kernel_rfl) (by kernel_rfl) (by kernel_rfl) (fun _ _ _ h => h) (Or.inl ⟨by rfl, ?hya9⟩) (by assumption) ?resta9
      case hya9 => intro w hSw; (try dsimp only at hSw); go_simp; (try with_reducible rfl)
      simp only [Act.put]
      refine wpAnyH_take (i := 10) (v := ?a10) rfl (by kernel_rfl) (by kernel_rfl) (by kernel_rfl) (fun _ _ _ h => h) (Or.inl ⟨by rfl, ?hya10⟩) (by assumption) ?resta10
      case hya10 => intro w hSw; (try dsimp only at hSw); go_simp; (try with_reducible rfl)
      simp only [Act.put]
      refine wpAnyH_take (i := 11) (v := ?a11) rfl (by kernel_rfl) (by kernel_rfl) (by kernel_rfl) (fun _ _ _ h => h) (Or.inl ⟨by rfl, ?hya11⟩) (by assumption) ?resta11
      case hya11 => intro w hSw; (try dsimp only at hSw); go_simp; (try with_reducible rfl)
      simp only [Act.put]
      refine wpAnyH_take (i := 12) (v := ?a12) rfl (by kernel_rfl) (by kernel_rfl) (by kernel_rfl) (fun _ _ _ h => h) (Or.inl ⟨by rfl, ?hya12⟩) (by assumption) ?resta12
      case hya12 => intro w hSw; (try dsimp only at hSw); go_simp; (try with_reducible rfl)
      simp only [Act.put]
      refine wpAnyH_take (i := 13) (v := ?a13) rfl (by kernel_rfl) (by kernel_rfl) (by kernel_rfl) (fun _ _ _ h => h) (Or.inl ⟨by rfl, ?hya13⟩) (by assumption) ?resta13
      case hya13 => intro w hSw; (try dsimp only at hSw); go_simp; (try with_reducible rfl)
      simp only [Act.put]
      refine wpAnyH_take (i := 14) (v := ?a14) rfl (by kernel_rfl) (by kernel_rfl) (by kernel_rfl) (fun _ _ _ h => h) (Or.inl ⟨by rfl, ?hya14⟩) (by assumption) ?resta14
      case hya14 => intro w hSw; (try dsimp only at hSw); go_simp; (try with_reducible rfl)
      simp only [Act.put]
      refine wpAnyH_take (i := 15) (v := ?a15) rfl (by kernel_rfl) (by kernel_rfl) (by kernel_rfl) (fun _ _ _ h => h) (Or.inl ⟨by rfl, ?hya15⟩) (by assumption) ?resta15
      case hya15 => intro w hSw; (try dsimp only at hSw); go_simp; (try with_reducible rfl)
      simp only [Act.put]
      refine wpAnyH_take (i := 16) (v := ?a16) rfl (by kernel_rfl) (by kernel_rfl) (by kernel_rfl) (fun _ _ _ h => h) (Or.inl ⟨by rfl, ?hya16⟩) (by assumption) ?resta16
      case hya16 => intro w hSw; (try dsimp only at hSw); go_simp; (try with_reducible rfl)
      simp only [Act.put]
      refine wpAnyH_take (i := 17) (v := ?a17) rfl (by kernel_rfl) (by kernel_rfl) (by kernel_rfl) (fun _ _ _ h => h) (Or.inl ⟨by rfl, ?hya17⟩) (by assumption) ?resta17
      case hya17 => intro w hSw; (try dsimp only at hSw); go_simp; (try with_reducible rfl)
      simp only [Act.put]
      refine wpAnyH_take (i := 18) (v := ?a18) rfl (by kernel_rfl) (by kernel_rfl) (by kernel_rfl) (fun _ _ _ h => h) (Or.inl ⟨by rfl, ?hya18⟩) (by assumption) ?resta18
      case hya18 => intro w hSw; (try dsimp only at hSw); go_simp; (try with_reducible rfl)
      simp only [Act.put]
      refine wpAnyH_take (i := 19) (v := ?a19) rfl (by kernel_rfl) (by kernel_rfl) (by kernel_rfl) (fun _ _ _ h => h) (Or.inl ⟨by rfl, ?hya19⟩) (by assumption) ?resta19
      case hya19 => intro w hSw; (try dsimp only at hSw); go_simp; (try with_reducible rfl)
      simp only [Act.put]
      refine wpAnyH_take (i := 20) (v := ?a20) rfl (by kernel_rfl) (by kernel_rfl) (by kernel_rfl) (fun _ _ _ h => h) (Or.inl ⟨by rfl, ?hya20⟩) (by assumption) ?resta20
      case hya20 => intro w hSw; (try dsimp only at hSw); go_simp; (try with_reducible rfl)
      simp only [Act.put]
      refine wpAnyH_ready (rs := [4, 21]) (by kernel_rfl) (by simp) ?_
      refine AllReadyH.cons rfl (fun K hK => ?_) (AllReadyH.cons rfl (fun K hK => ?_) AllReadyH.nil)
      · go_simp
        refine hK.out _ _ (by exact hHeld) (fun hHeld => ?_)
        clear hK K
        refine wpAnyH_ready (rs := [21]) (by kernel_rfl) (by simp) ?_
        refine AllReadyH.cons rfl (fun K hK => ?_) AllReadyH.nil
        go_simp
        refine hK.out _ _ (by exact s2_alloc hHeld _) (fun hHeld => ?_)
        clear hK K
        refine wpAnyH_ready (rs := [22]) (by kernel_rfl) (by simp) ?_
        refine AllReadyH.cons rfl (fun K hK => ?_) AllReadyH.nil
        refine stepK_lies _ 96 rfl rfl (.tmp 78) (.tmp 95) 35 rfl 0 3 i0 (.int .i64 0) 1 8 Try.underlying35 hi hz0 hz1 hz2 rfl (by decide) vn Li.length _ (by simp [Act.eval]) (HRN.out _ (((Below.refl _ _).alloc (Nat.le_refl _) _).drew)) ⟨wf.heap.size, 0, none⟩ 4 4 [.int .i64 x, .int .i64 x, .int .i64 x, .int .i64 x] (by simp [Act.eval]) rfl (World.news_of_block (cs := #[.int .i64 x, .int .i64 x, .int .i64 x, .int .i64 x]) (heap_alloc_new wf _)) (by intro u hu2; simp at hu2; subst hu2; rfl) (by decide) (by unfold maxLen; omega) (by omega) (Nat.zero_le _) (wf.heap.size + 1) (by simp) ?_
        intro gg capg wg n1 n2 n3 n4
        have hDg : wg.heap[D]? = wf.heap[D]? := HDG.out wg n2
        refine hK.out _ _ (s2_same HS2.out hDg) (fun hHeld => ?_)
        clear hK K
        have c3g : wg.cell? ⟨D, 3, none⟩ = some vn := (World.cell?_of_block (a := ⟨D, 3, none⟩) hDg).trans c3f
        refine wpAnyH_take (i := 23) (v := ?b23) rfl (by kernel_rfl) (by kernel_rfl) (by kernel_rfl) (fun _ _ _ h => h) (Or.inl ⟨by rfl, ?hyb23⟩) (by assumption) ?restb23
        case hyb23 => intro w hSw; (try dsimp only at hSw); go_simp; (try with_reducible rfl)
        simp only [Act.put]
        refine wpAnyH_take (i := 24) (v := ?b24) rfl (by kernel_rfl) (by kernel_rfl) (by kernel_rfl) (fun _ _ _ h => h) (Or.inl ⟨by rfl, ?hyb24⟩) (by assumption) ?restb24
        case hyb24 => intro w hSw; (try dsimp only at hSw); go_simp; (try with_reducible rfl)
        simp only [Act.put]
        refine wpAnyH_ready (rs := [25]) (by kernel_rfl) (by simp) ?_
        refine AllReadyH.cons rfl (fun K hK => ?_) AllReadyH.nil
        go_simp
        refine hK.out _ _ (by exact s2_set hHeld _) (fun hHeld => ?_)
        clear hK K
        refine wpAnyH_done (by kernel_rfl) ?_ _
        go_wp2
        go_end0
        exact ⟨rfl, HFIN.out gg capg wg n1 n2 n3 n4⟩
      · go_simp
        refine hK.out _ _ (by exact s2_alloc hHeld _) (fun hHeld => ?_)
        clear hK K
        refine wpAnyH_ready (rs := [4]) (by kernel_rfl) (by simp) ?_
        refine AllReadyH.cons rfl (fun K hK => ?_) AllReadyH.nil
        go_simp
        refine hK.out _ _ (by exact hHeld) (fun hHeld => ?_)
        clear hK K
        refine wpAnyH_ready (rs := [22]) (by kernel_rfl) (by simp) ?_
        refine AllReadyH.cons rfl (fun K hK => ?_) AllReadyH.nil
        refine stepK_lies _ 96 rfl rfl (.tmp 78) (.tmp 95) 35 rfl 0 3 i0 (.int .i64 0) 1 8 Try.underlying35 hi hz0 hz1 hz2 rfl (by decide) vn Li.length _ (by simp [Act.eval]) (HRN.out _ (((Below.refl _ _).alloc (Nat.le_refl _) _).drew)) ⟨wf.heap.size, 0, none⟩ 4 4 [.int .i64 x, .int .i64 x, .int .i64 x, .int .i64 x] (by simp [Act.eval]) rfl (World.news_of_block (cs := #[.int .i64 x, .int .i64 x, .int .i64 x, .int .i64 x]) (heap_alloc_new wf _)) (by intro u hu2; simp at hu2; subst hu2; rfl) (by decide) (by unfold maxLen; omega) (by omega) (Nat.zero_le _) (wf.heap.size + 1) (by simp) ?_
        intro gg capg wg n1 n2 n3 n4
        have hDg : wg.heap[D]? = wf.heap[D]? := HDG.out wg n2
        refine hK.out _ _ (s2_same HS2.out hDg) (fun hHeld => ?_)
        clear hK K
        have c3g : wg.cell? ⟨D, 3, none⟩ = some vn := (World.cell?_of_block (a := ⟨D, 3, none⟩) hDg).trans c3f
        refine wpAnyH_take (i := 23) (v := ?c23) rfl (by kernel_rfl) (by kernel_rfl) (by kernel_rfl) (fun _ _ _ h => h) (Or.inl ⟨by rfl, ?hyc23⟩) (by assumption) ?restc23
        case hyc23 => intro w hSw; (try dsimp only at hSw); go_simp; (try with_reducible rfl)
        simp only [Act.put]
        refine wpAnyH_take (i := 24) (v := ?c24) rfl (by kernel_rfl) (by kernel_rfl) (by kernel_rfl) (fun _ _ _ h => h) (Or.inl ⟨by rfl, ?hyc24⟩) (by assumption) ?restc24
        case hyc24 => intro w hSw; (try dsimp only at hSw); go_simp; (try with_reducible rfl)
        simp only [Act.put]
        refine wpAnyH_ready (rs := [25]) (by kernel_rfl) (by simp) ?_
        refine AllReadyH.cons rfl (fun K hK => ?_) AllReadyH.nil
        go_simp
        refine hK.out _ _ (by exact s2_set hHeld _) (fun hHeld => ?_)
        clear hK K
        refine wpAnyH_done (by kernel_rfl) ?_ _
        go_wp2
        go_end0
        exact ⟨rfl, HFIN.out gg capg wg n1 n2 n3 n4⟩

end Go.Proofs.Ythkndfkkgncjfab
