/- append of one value, over and over: what held it holds it still. -/
import Derived.Test.YtpikkedeoebiaaaLawJ
import Derived.Deep.AppendLies
import Derived.ArgAppend
namespace Go.Proofs.Ytpikkedeoebiaaa
open Go.RowKit
set_option maxRecDepth 100000

section
variable {P : Program} (w : World)

/-- what the row held that is x, it holds still; and the row itself can be read as it was -/
theorem run_append_fill (t ty : TypeId) (base : Nat) (e : TypeId) (i : TypeInfo) (z : Value) (size bytes : Nat) (ht : P.underlying t = some (.slice e)) (hi : P.info? e = some i) (hz : i.zero = some z)
    (hsize : i.size = size) (hby : i.bytes = bytes) (hzs : z.cells.size = size) (hsz : 0 < size)
    (v : Value) (n : Nat) (xs : List Value) (hown : w.ownsRow base e size v n xs)
    (ad : Addr) (m c : Nat) (news : List Value) (x : Value) (hl : news.length = m * size) (hnews : ∀ j u, news[j]? = some u → w.cell? (ad.add j) = some u) (h1 : ∀ u ∈ news, u.oneCell' = true) (hx : ∀ u ∈ news, u = x)
    (hm : 0 < m) (h63 : n + m ≤ maxLen) (hbytes : (n + m) * bytes ≤ 140737488355328) (hbase : base ≤ w.heap.size) (H : Nat) (hH : w.heap.size = H) :
    ∃ g cap w', (Builtin.append_ #[t, t] ty #[v, .slice (some ad) m c]).run P w = .ok (.slice (some ⟨g, 0, none⟩) (n + m) cap) w' ∧
      w'.ownsRow base e size (.slice (some ⟨g, 0, none⟩) (n + m) cap) (n + m) (xs ++ news) ∧ w'.ownsRow base e size v n xs ∧ w.grownBy w' v.ownBlock ∧ (v.ownBlock = some g ∨ g = H) ∧ g < w'.heap.size ∧
      ∀ b j, v.ownBlock = some b → w.cell? ⟨b, j, none⟩ = some x → w'.cell? ⟨b, j, none⟩ = some x := by
  obtain ⟨g, cap, w', hr, h2, h3, h4, h5⟩ := run_append_lies (P := P) w t ty base e i z size bytes ht hi hz hsize hby hzs hsz v n xs hown ad m c news hl hnews h1 hm h63 hbytes hbase H hH
  refine ⟨g, cap, w', hr, h2, ?_, h3, h4, h5, ?_⟩
  · rcases hown.2 with ⟨rfl, rfl⟩ | ⟨g0, cap0, cur, rfl, hb0, hg0, hn0, hc0, hs0, ht0⟩
    · exact ⟨hown.1, .inl ⟨rfl, rfl⟩⟩
    · rcases Nat.lt_or_ge cap0 (n + m) with hc | hc
      · obtain ⟨v'', w'', hr2, _, q2⟩ := run_append_arg_grows (P := P) w t ty e i z size bytes ht hi hz hsize hby hzs hsz ⟨g0, 0, none⟩ n cap0 xs hown.1 (World.ownsRow.cells hown rfl) ad m c news hl hnews hc h63 hbytes
        rw [hr] at hr2
        cases hr2
        exact World.ownsRow.kept hown q2 (.inr (by simp [Value.ownBlock]))
      · have hr2 := run_append_room (P := P) w t ty e i ht hi g0 n cap0 cur hg0 ad m c news (by rw [hsize]; exact hl) hnews h1 hc (by rw [hsize, hl, hs0, ← Nat.add_mul]; exact Nat.mul_le_mul_right _ hc)
        rw [hr, hsize] at hr2
        cases hr2
        refine ⟨hown.1, .inr ⟨_, _, _, rfl, hb0, setRow_heap w _ cur _ e (0, 0) hg0, hn0, hc0, ?_, ?_⟩⟩
        · have hle : n * size + m * size ≤ cap * size := by rw [← Nat.add_mul]; exact Nat.mul_le_mul_right _ hc
          have hsc : cur.toList.length = cap * size := by rw [Array.length_toList, hs0]
          show (List.toArray _).size = _
          rw [List.size_toArray, List.length_append, List.length_append, List.length_take, List.length_drop, hsc, hl]
          omega
        · have hle : n * size ≤ cur.toList.length := by rw [Array.length_toList, hs0]; exact Nat.mul_le_mul_right _ hn0
          simp only [List.append_assoc]
          rw [List.take_append_of_le_length (by rw [List.length_take]; omega), List.take_take, Nat.min_self]
          exact ht0
  · intro b j hb hcell
    rcases hown.2 with ⟨rfl, rfl⟩ | ⟨g0, cap0, cur, rfl, hb0, hg0, hn0, hc0, hs0, ht0⟩
    · simp [Value.ownBlock] at hb
    · simp [Value.ownBlock] at hb
      subst hb
      rcases Nat.lt_or_ge cap0 (n + m) with hc | hc
      · obtain ⟨v'', w'', hr2, _, q2⟩ := run_append_arg_grows (P := P) w t ty e i z size bytes ht hi hz hsize hby hzs hsz ⟨g0, 0, none⟩ n cap0 xs hown.1 (World.ownsRow.cells hown rfl) ad m c news hl hnews hc h63 hbytes
        rw [hr] at hr2
        cases hr2
        exact World.grownBy.cell q2 hcell (by simp)
      · have hr2 := run_append_room (P := P) w t ty e i ht hi g0 n cap0 cur hg0 ad m c news (by rw [hsize]; exact hl) hnews h1 hc (by rw [hsize, hl, hs0, ← Nat.add_mul]; exact Nat.mul_le_mul_right _ hc)
        rw [hr, hsize] at hr2
        cases hr2
        rw [cell_setRow_same w _ j cur _ e (0, 0) hg0]
        rw [cell_of_row w _ j cur e (0, 0) hg0] at hcell
        have hle : n * size ≤ cur.toList.length := by rw [Array.length_toList, hs0]; exact Nat.mul_le_mul_right _ hn0
        have hct : cur.toList[j]? = some x := by simpa using hcell
        have hlt : (cur.toList.take (n * size)).length = n * size := by rw [List.length_take]; omega
        show (List.toArray _)[j]? = some x
        rw [List.getElem?_toArray, List.append_assoc, List.getElem?_append, hlt]
        split
        · rename_i hj
          rw [List.getElem?_take, if_pos hj]; exact hct
        · rename_i hj
          rw [List.getElem?_append]
          split
          · rename_i hj2
            have hget : news[j - n * size]? = some news[j - n * size] := List.getElem?_eq_getElem hj2
            rw [hget, hx _ (List.getElem_mem hj2)]
          · rename_i hj2
            rw [List.getElem?_drop]
            rw [show n * size + news.length + (j - n * size - news.length) = j by omega]
            exact hct

theorem wp_append_fill {o : Oper} {a : Act} {K : Act → World → Prop} {Q : Exit → Act → World → Prop} (s x0 : Operand) (t : TypeId)
    (ho : o.op = .call { callee := .builtin .append, args := #[s, x0], argTypes := #[t, t] })
    (base : Nat) (e : TypeId) (i : TypeInfo) (z : Value) (size bytes : Nat) (ht : P.underlying t = some (.slice e)) (hi : P.info? e = some i) (hz : i.zero = some z)
    (hsize : i.size = size) (hby : i.bytes = bytes) (hzs : z.cells.size = size) (hsz : 0 < size)
    (v : Value) (n : Nat) (xs : List Value) (hs : a.eval s = v) (hown : w.ownsRow base e size v n xs)
    (ad : Addr) (m c : Nat) (news : List Value) (x : Value) (hx0 : a.eval x0 = .slice (some ad) m c) (hl : news.length = m * size) (hnews : ∀ j u, news[j]? = some u → w.cell? (ad.add j) = some u) (h1 : ∀ u ∈ news, u.oneCell' = true) (hx : ∀ u ∈ news, u = x)
    (hm : 0 < m) (h63 : n + m ≤ maxLen) (hbytes : (n + m) * bytes ≤ 140737488355328) (hbase : base ≤ w.heap.size) (H : Nat) (hH : w.heap.size = H)
    (h : ∀ g cap w', w'.ownsRow base e size (.slice (some ⟨g, 0, none⟩) (n + m) cap) (n + m) (xs ++ news) → w'.ownsRow base e size v n xs → w.grownBy w' v.ownBlock → (v.ownBlock = some g ∨ g = H) → g < w'.heap.size →
      (∀ b j, v.ownBlock = some b → w.cell? ⟨b, j, none⟩ = some x → w'.cell? ⟨b, j, none⟩ = some x) → K (a.put o.dst (.slice (some ⟨g, 0, none⟩) (n + m) cap)) w') : o.wp P a w K Q := by
  obtain ⟨g, cap, w', hr, h2, h3, h4, h5, h6, h7⟩ := run_append_fill (P := P) w t o.type base e i z size bytes ht hi hz hsize hby hzs hsz v n xs hown ad m c news x hl hnews h1 hx hm h63 hbytes hbase H hH
  unfold Oper.wp execOp
  simp only [ho, resolve, invoke, builtin, Sem.run_bind, Sem.run_pure, Result.andThen_ok, List.map_toArray, List.map_cons, List.map_nil, hs, hx0, hr]
  exact h g cap w' h2 h3 h4 h5 h6 h7

theorem wpList_append_fill {ops : Array Oper} {rest : List Oper} {o : Oper} {a : Act} {Q : Exit → Act → World → Prop} (hgd : o.guard = none) (s x0 : Operand) (t : TypeId)
    (ho : o.op = .call { callee := .builtin .append, args := #[s, x0], argTypes := #[t, t] })
    (base : Nat) (e : TypeId) (i : TypeInfo) (z : Value) (size bytes : Nat) (ht : P.underlying t = some (.slice e)) (hi : P.info? e = some i) (hz : i.zero = some z)
    (hsize : i.size = size) (hby : i.bytes = bytes) (hzs : z.cells.size = size) (hsz : 0 < size)
    (v : Value) (n : Nat) (xs : List Value) (hs : a.eval s = v) (hown : w.ownsRow base e size v n xs)
    (ad : Addr) (m c : Nat) (news : List Value) (x : Value) (hx0 : a.eval x0 = .slice (some ad) m c) (hl : news.length = m * size) (hnews : ∀ j u, news[j]? = some u → w.cell? (ad.add j) = some u) (h1 : ∀ u ∈ news, u.oneCell' = true) (hx : ∀ u ∈ news, u = x)
    (hm : 0 < m) (h63 : n + m ≤ maxLen) (hbytes : (n + m) * bytes ≤ 140737488355328) (hbase : base ≤ w.heap.size) (H : Nat) (hH : w.heap.size = H)
    (h : ∀ g cap w', w'.ownsRow base e size (.slice (some ⟨g, 0, none⟩) (n + m) cap) (n + m) (xs ++ news) → w'.ownsRow base e size v n xs → w.grownBy w' v.ownBlock → (v.ownBlock = some g ∨ g = H) → g < w'.heap.size →
      (∀ b j, v.ownBlock = some b → w.cell? ⟨b, j, none⟩ = some x → w'.cell? ⟨b, j, none⟩ = some x) → wpList P ops Q rest (a.put o.dst (.slice (some ⟨g, 0, none⟩) (n + m) cap)) w') : wpList P ops Q (o :: rest) a w :=
  wpList_plain hgd fun _ hK => wp_append_fill w s x0 t ho base e i z size bytes ht hi hz hsize hby hzs hsz v n xs hs hown ad m c news x hx0 hl hnews h1 hx hm h63 hbytes hbase H hH fun g cap w' h2 h3 h4 h5 h6 h7 => hK _ _ (h g cap w' h2 h3 h4 h5 h6 h7)

theorem step_append_fill {ops : Array Oper} {o : Oper} {a : Act} {K : Act → World → Prop} {Q : Exit → Act → World → Prop} {E : Prop} (d : Nat) (hd : o.dst = some d) (hgd : o.guard = none) (s x0 : Operand) (t : TypeId)
    (ho : o.op = .call { callee := .builtin .append, args := #[s, x0], argTypes := #[t, t] })
    (base : Nat) (e : TypeId) (i : TypeInfo) (z : Value) (size bytes : Nat) (ht : P.underlying t = some (.slice e)) (hi : P.info? e = some i) (hz : i.zero = some z)
    (hsize : i.size = size) (hby : i.bytes = bytes) (hzs : z.cells.size = size) (hsz : 0 < size)
    (v : Value) (n : Nat) (xs : List Value) (hs : a.eval s = v) (hown : w.ownsRow base e size v n xs)
    (ad : Addr) (m c : Nat) (news : List Value) (x : Value) (hx0 : a.eval x0 = .slice (some ad) m c) (hl : news.length = m * size) (hnews : ∀ j u, news[j]? = some u → w.cell? (ad.add j) = some u) (h1 : ∀ u ∈ news, u.oneCell' = true) (hx : ∀ u ∈ news, u = x)
    (hm : 0 < m) (h63 : n + m ≤ maxLen) (hbytes : (n + m) * bytes ≤ 140737488355328) (hbase : base ≤ w.heap.size) (H : Nat) (hH : w.heap.size = H)
    (h : ∀ g cap w', w'.ownsRow base e size (.slice (some ⟨g, 0, none⟩) (n + m) cap) (n + m) (xs ++ news) → w'.ownsRow base e size v n xs → w.grownBy w' v.ownBlock → (v.ownBlock = some g ∨ g = H) → g < w'.heap.size →
      (∀ b j, v.ownBlock = some b → w.cell? ⟨b, j, none⟩ = some x → w'.cell? ⟨b, j, none⟩ = some x) → K (a.put (some d) (.slice (some ⟨g, 0, none⟩) (n + m) cap)) w') : 
    if Region.wanted o (yielded ops a.tmps) = true then Oper.wp P o a w K Q else E := by
  have hw : Region.wanted o (yielded ops a.tmps) = true := by simp [Region.wanted, hgd]
  rw [if_pos hw]
  exact wp_append_fill w s x0 t ho base e i z size bytes ht hi hz hsize hby hzs hsz v n xs hs hown ad m c news x hx0 hl hnews h1 hx hm h63 hbytes hbase H hH (fun g cap w' h2 h3 h4 h5 h6 h7 => by rw [hd]; exact h g cap w' h2 h3 h4 h5 h6 h7)
end

end Go.Proofs.Ytpikkedeoebiaaa
