/- Walks over the document's index: Delete. -/
import Derived.Test.YtpikkedeoebiaaaRefC
import Derived.Deep.RegionHeldLaw
namespace Go.Proofs.Ytpikkedeoebiaaa
open Go.RowKit
set_option maxRecDepth 100000

/-- the law on an append, its place of landing written out -/
theorem step_lies_at {P : Program} {ops : Array Oper} {o : Oper} {a : Act} {w : World} {K : Act → World → Prop} {Q : Exit → Act → World → Prop} {E : Prop} (d : Nat) (hd : o.dst = some d) (H : Nat) (hgd : o.guard = none) (s x : Operand) (t : TypeId)
    (ho : o.op = .call { callee := .builtin .append, args := #[s, x], argTypes := #[t, t] })
    (base : Nat) (e : TypeId) (i : TypeInfo) (z : Value) (size bytes : Nat) (ht : P.underlying t = some (.slice e)) (hi : P.info? e = some i) (hz : i.zero = some z)
    (hsize : i.size = size) (hby : i.bytes = bytes) (hzs : z.cells.size = size) (hsz : 0 < size)
    (v : Value) (n : Nat) (xs : List Value) (hs : a.eval s = v) (hown : w.ownsRow base e size v n xs)
    (ad : Addr) (m c : Nat) (news : List Value) (hx : a.eval x = .slice (some ad) m c) (hl : news.length = m * size) (hnews : ∀ j u, news[j]? = some u → w.cell? (ad.add j) = some u) (h1 : ∀ u ∈ news, u.oneCell' = true)
    (hm : 0 < m) (h63 : n + m ≤ maxLen) (hbytes : (n + m) * bytes ≤ 140737488355328) (hbase : base ≤ w.heap.size) (hH : w.heap.size = H)
    (h : ∀ g cap w', w'.ownsRow base e size (.slice (some ⟨g, 0, none⟩) (n + m) cap) (n + m) (xs ++ news) → w.grownBy w' v.ownBlock → (v.ownBlock = some g ∨ g = H) → g < w'.heap.size → K (a.put (some d) (.slice (some ⟨g, 0, none⟩) (n + m) cap)) w') :
    if Region.wanted o (yielded ops a.tmps) = true then Oper.wp P o a w K Q else E :=
  step_append_lies w hgd s x t ho base e i z size bytes ht hi hz hsize hby hzs hsz v n xs hs hown ad m c news hx hl hnews h1 hm h63 hbytes hbase H hH (fun g cap w' p1 p2 p3 p4 => by rw [hd]; exact h g cap w' p1 p2 p3 p4)

set_option maxHeartbeats 400000 in
theorem rDelete_none (r : Nat) (a b p : Int) (v : Value) (cs : List Do.Chg) (id : Int) (w : World) (hl : cs.length ≤ 2000000000000) (h1 : RefAt w r a b p v) (h2 : OwnC w 0 v cs) (hf : Do.at? (Do.there cs) id = none) :
    Calls Try.prog 79 #[.pointer (some ⟨r, 0, none⟩), .int .i64 id] w fun e w' => e = .returned (.int .i64 4) ∧ Below w.heap.size w w' := by
  have hlen : (Do.there cs).length ≤ cs.length := Do.thereTo_len cs cs.length
  have HF : Hid (Do.at? (Do.there cs) id = none) := hf
  clear hf
  go_enter Try.func79, Try.ntmps79
  go_wp2_with fail
  refine (there_any r a b p cs _ hl ⟨v, h1, h2⟩).mono ?_
  rintro e w1 ⟨u, rfl, hu, hb1⟩
  obtain ⟨ao, cap, rfl⟩ := hu.shape2
  have HT : Hid (Calls Try.prog 95 #[.slice ao (Do.there cs).length cap, .int .i64 id] w1 fun e w' => e = .returned (.int .i64 (-1)) ∧ w' = w1) := by
    have := find_any _ _ (Do.there cs) id w1 (by omega) hu
    rw [HF.out] at this; exact this
  generalize (Do.there cs).length = m at *
  go_wp2_with fail
  refine HT.out.mono ?_
  rintro e w2 ⟨rfl, hw2⟩; rw [hw2]; clear hw2
  go_wp2_with fail
  go_ret
  exact ⟨rfl, hb1⟩

set_option maxHeartbeats 2000000 in
theorem rDelete_ok (r : Nat) (a b p : Int) (v : Value) (cs : List Do.Chg) (id k : Nat) (c : Do.Chg) (w : World) (hl : cs.length ≤ 2000000000000) (h1 : RefAt w r a b p v) (h2 : OwnC w 0 v cs) (hf : Do.at? (Do.there cs) (id : Int) = some k) (hck : (Do.there cs)[k]? = some c) :
    Calls Try.prog 79 #[.pointer (some ⟨r, 0, none⟩), .int .i64 (id : Int)] w fun e w' => e = .returned (.int .i64 0) ∧ ∃ v', RefAt w' r a b p v' ∧ OwnC w' 0 v' (cs ++ [⟨false, c.doc, id⟩]) ∧ Only (foot r v) w w' ∧ (∀ k, foot r v' k → foot r v k ∨ w.heap.size ≤ k) := by
  obtain ⟨i0, hi, hz0, hz1, hz2⟩ := info_parts Try.info147
  have hlen : (Do.there cs).length ≤ cs.length := Do.thereTo_len cs cs.length
  have hkl : k < (Do.there cs).length := by
    rcases Nat.lt_or_ge k (Do.there cs).length with h | h
    · exact h
    · rw [List.getElem?_eq_none h] at hck; cases hck
  have HF : Hid (Do.at? (Do.there cs) (id : Int) = some k) := hf
  have HC : Hid ((Do.there cs)[k]? = some c) := hck
  clear hf hck
  obtain ⟨av, capv, rfl⟩ := h2.shape2
  go_enter Try.func79, Try.ntmps79
  go_wp2_with fail
  refine (there_any r a b p cs _ hl ⟨_, h1, h2⟩).mono ?_
  rintro e w1 ⟨u, rfl, hu, hb1⟩
  rcases hu.shape with ⟨rfl, he⟩ | ⟨gl, cap, rfl, hgl, hgl2⟩
  · rw [he] at hkl; simp at hkl
  · obtain ⟨_, x1, _⟩ := hu.cell rfl k c HC.out
    have HT : Hid (Calls Try.prog 95 #[.slice (some ⟨gl, 0, none⟩) (Do.there cs).length cap, .int .i64 (id : Int)] w1 fun e w' => e = .returned (.int .i64 (k : Int)) ∧ w' = w1) := by
      have := find_any _ _ (Do.there cs) id w1 (by omega) hu
      rw [HF.out] at this; exact this
    have hr1 := h1.below hb1
    have ho1 := h2.below hb1
    have hgv : some gl ≠ (Value.slice av cs.length capv).ownBlock := fun e => by
      have := (World.ownsRow.lt h2 gl e.symm).2; omega
    have hgr : gl ≠ r := by have := h1.lt; omega
    have c3 := hr1.c3
    have hrl := hr1.lt
    clear HC HF hu
    generalize (Do.there cs).length = m at *
    go_wp2_with fail
    refine HT.out.mono ?_
    rintro e w2 ⟨rfl, hw2⟩; rw [hw2]; clear hw2 HT
    have hkm : (k : Int) < (m : Int) := by omega
    have hk0 : decide ((k : Int) < 0) = false := by simp
    go_wp2_with fail
    · skip
      refine wp_region_held_drew (S := fun w' => w'.cell? ⟨gl, k * 3 + 1, none⟩ = some (.string c.doc)) (by kernel_rfl) x1 (fun hHeld => ?_)
      refine wpAnyH_take (i := 0) (v := ?va0) rfl (by kernel_rfl) (by kernel_rfl) (by kernel_rfl) (fun _ _ _ h => h) (Or.inl ⟨by rfl, ?hya0⟩) (by assumption) ?resta0
      case hya0 => intro w hSw; (try dsimp only at hSw); go_simp; (try with_reducible rfl)
      simp only [Act.put]
      refine wpAnyH_take (i := 1) (v := ?va1) rfl (by kernel_rfl) (by kernel_rfl) (by kernel_rfl) (fun _ _ _ h => h) (Or.inl ⟨by rfl, ?hya1⟩) (by assumption) ?resta1
      case hya1 => intro w hSw; (try dsimp only at hSw); go_simp; (try with_reducible rfl)
      simp only [Act.put]
      refine wpAnyH_take (i := 2) (v := ?va2) rfl (by kernel_rfl) (by kernel_rfl) (by kernel_rfl) (fun _ _ _ h => h) (Or.inl ⟨by rfl, ?hya2⟩) (by assumption) ?resta2
      case hya2 => intro w hSw; (try dsimp only at hSw); go_simp; (try with_reducible rfl)
      simp only [Act.put]
      refine wpAnyH_take (i := 3) (v := ?va3) rfl (by kernel_rfl) (by kernel_rfl) (by kernel_rfl) (fun _ _ _ h => h) (Or.inl ⟨by rfl, ?hya3⟩) (by assumption) ?resta3
      case hya3 => intro w hSw; (try dsimp only at hSw); go_simp; (try with_reducible rfl)
      simp only [Act.put]
      refine wpAnyH_take (i := 5) (v := ?va5) rfl (by kernel_rfl) (by kernel_rfl) (by kernel_rfl) (fun _ _ _ h => h) (Or.inl ⟨by rfl, ?hya5⟩) (by assumption) ?resta5
      case hya5 => intro w hSw; (try dsimp only at hSw); go_simp; (try with_reducible rfl)
      simp only [Act.put]
      refine wpAnyH_take (i := 6) (v := ?va6) rfl (by kernel_rfl) (by kernel_rfl) (by kernel_rfl) (fun _ _ _ h => h) (Or.inl ⟨by rfl, ?hya6⟩) (by assumption) ?resta6
      case hya6 => intro w hSw; (try dsimp only at hSw); go_simp; (try with_reducible rfl)
      simp only [Act.put]
      refine wpAnyH_take (i := 7) (v := ?va7) rfl (by kernel_rfl) (by kernel_rfl) (by kernel_rfl) (fun _ _ _ h => h) (Or.inl ⟨by rfl, ?hya7⟩) (by assumption) ?resta7
      case hya7 => intro w hSw; (try dsimp only at hSw); go_simp; (try with_reducible rfl)
      simp only [Act.put]
      refine wpAnyH_take (i := 8) (v := ?va8) rfl (by kernel_rfl) (by kernel_rfl) (by kernel_rfl) (fun _ _ _ h => h) (Or.inl ⟨by rfl, ?hya8⟩) (by assumption) ?resta8
      case hya8 => intro w hSw; (try dsimp only at hSw); go_simp; (try with_reducible rfl)
      simp only [Act.put]
      refine wpAnyH_take (i := 9) (v := ?va9) rfl (by kernel_rfl) (by kernel_rfl) (by kernel_rfl) (fun _ _ _ h => h) (Or.inl ⟨by rfl, ?hya9⟩) (by assumption) ?resta9
      case hya9 => intro w hSw; (try dsimp only at hSw); go_simp; (try with_reducible rfl)
      simp only [Act.put]
      refine wpAnyH_take (i := 10) (v := ?va10) rfl (by kernel_rfl) (by kernel_rfl) (by kernel_rfl) (fun _ _ _ h => h) (Or.inl ⟨by rfl, ?hya10⟩) (by assumption) ?resta10
      case hya10 => intro w hSw; (try dsimp only at hSw); go_simp; (try with_reducible rfl)
      simp only [Act.put]
      refine wpAnyH_take (i := 11) (v := ?va11) rfl (by kernel_rfl) (by kernel_rfl) (by kernel_rfl) (fun _ _ _ h => h) (Or.inl ⟨by rfl, ?hya11⟩) (by assumption) ?resta11
      case hya11 => intro w hSw; (try dsimp only at hSw); go_simp; (try with_reducible rfl)
      simp only [Act.put]
      refine wpAnyH_ready (rs := [4, 12]) (by kernel_rfl) (by simp) ?_
      refine AllReadyH.cons rfl (fun K hK => ?_) (AllReadyH.cons rfl (fun K hK => ?_) AllReadyH.nil)
      · go_simp
        refine hK.out _ _ (by exact hHeld) (fun hHeld => ?_)
        clear hK K
        refine wpAnyH_ready (rs := [12]) (by kernel_rfl) (by simp) ?_
        refine AllReadyH.cons rfl (fun K hK => ?_) AllReadyH.nil
        go_simp
        refine hK.out _ _ (by exact cell_later (((Below.refl _ _).alloc (Nat.le_refl _) _).drew) x1) (fun hHeld => ?_)
        clear hK K
        refine wpAnyH_ready (rs := [13]) (by kernel_rfl) (by simp) ?_
        refine AllReadyH.cons rfl (fun K hK => ?_) AllReadyH.nil
        refine step_lies_at 27 rfl w1.heap.size.succ rfl (.tmp 18) (.tmp 26) 129 rfl 0 147 i0 (.agg #[.bool false, .string ⟨#[]⟩, .int .i64 0]) 3 32 Try.underlying129 hi hz0 hz1 hz2 rfl (by decide) (.slice av cs.length capv) cs.length (CH cs) (by simp [Act.eval]) (World.ownsRow.alloc ho1 _) ⟨w1.heap.size, 0, none⟩ 1 1 (CH1 ⟨false, c.doc, id⟩) (by simp [Act.eval]) rfl (World.news_of_block (cs := #[.bool false, .string c.doc, .int .i64 (id : Int)]) (heap_alloc_new w1 _)) (by intro u hu2; simp [CH1] at hu2; rcases hu2 with rfl | rfl | rfl <;> rfl) (by decide) (by unfold maxLen; omega) (by omega) (Nat.zero_le _) (by simp) ?_
        intro g' cap' w3 hown3 hgrow0 hat3 hlt3
        have hgrow3 : (w1.alloc (.cells #[.bool false, .string c.doc, .int .i64 (id : Int)] 147)).grownBy w3 (Value.slice av cs.length capv).ownBlock := ⟨hgrow0.os, hgrow0.tape, hgrow0.output, hgrow0.size, hgrow0.block⟩
        have R := put_change (c := ⟨false, c.doc, id⟩) (o := .cells #[.bool false, .string c.doc, .int .i64 (id : Int)] 147) hr1 ho1 hown3 hgrow3 hat3
        have hd3 := RefAt.kept (RefAt.below hr1 ((Below.refl _ _).alloc (Nat.le_refl _) (.cells #[.bool false, .string c.doc, .int .i64 (id : Int)] 147))) hgrow3 (ho1.apart hr1)
        have c33 := hd3.c3
        have f33 := hd3.free 3
        have hcd : w3.cell? ⟨gl, k * 3 + 1, none⟩ = some (.string c.doc) := World.grownBy.cell (w := w1.alloc (.cells #[.bool false, .string c.doc, .int .i64 (id : Int)] 147)) hgrow3 (cell_later ((Below.refl _ _).alloc (Nat.le_refl _) _) x1) hgv
        refine hK.out _ _ hcd (fun hHeld => ?_)
        clear hK K
        refine wpAnyH_take (i := 14) (v := ?vb14) rfl (by kernel_rfl) (by kernel_rfl) (by kernel_rfl) (fun _ _ _ h => h) (Or.inl ⟨by rfl, ?hyb14⟩) (by assumption) ?restb14
        case hyb14 => intro w hSw; (try dsimp only at hSw); go_simp; (try with_reducible rfl)
        simp only [Act.put]
        refine wpAnyH_take (i := 15) (v := ?vb15) rfl (by kernel_rfl) (by kernel_rfl) (by kernel_rfl) (fun _ _ _ h => h) (Or.inl ⟨by rfl, ?hyb15⟩) (by assumption) ?restb15
        case hyb15 => intro w hSw; (try dsimp only at hSw); go_simp; (try with_reducible rfl)
        simp only [Act.put]
        refine wpAnyH_ready (rs := [16]) (by kernel_rfl) (by simp) ?_
        refine AllReadyH.cons rfl (fun K hK => ?_) AllReadyH.nil
        go_simp
        refine hK.out _ _ (by rw [World.cell?_setCell_other _ _ _ _ (by simp)]; exact hcd) (fun hHeld => ?_)
        clear hK K
        refine wpAnyH_done (by kernel_rfl) ?_ _
        go_wp2
        go_ret
        exact ⟨rfl, _, R.1, R.2.1, (Only.of_below hb1).trans R.2.2.1, fun j hj => (R.2.2.2 j hj).imp (fun h => h) (fun h => by have := hb1.size; omega)⟩
      · go_simp
        refine hK.out _ _ (by exact cell_later (((Below.refl _ _).alloc (Nat.le_refl _) _).drew) x1) (fun hHeld => ?_)
        clear hK K
        refine wpAnyH_ready (rs := [4]) (by kernel_rfl) (by simp) ?_
        refine AllReadyH.cons rfl (fun K hK => ?_) AllReadyH.nil
        go_simp
        refine hK.out _ _ (by exact hHeld) (fun hHeld => ?_)
        clear hK K
        refine wpAnyH_ready (rs := [13]) (by kernel_rfl) (by simp) ?_
        refine AllReadyH.cons rfl (fun K hK => ?_) AllReadyH.nil
        refine step_lies_at 27 rfl w1.heap.size.succ rfl (.tmp 18) (.tmp 26) 129 rfl 0 147 i0 (.agg #[.bool false, .string ⟨#[]⟩, .int .i64 0]) 3 32 Try.underlying129 hi hz0 hz1 hz2 rfl (by decide) (.slice av cs.length capv) cs.length (CH cs) (by simp [Act.eval]) (World.ownsRow.alloc ho1 _) ⟨w1.heap.size, 0, none⟩ 1 1 (CH1 ⟨false, c.doc, id⟩) (by simp [Act.eval]) rfl (World.news_of_block (cs := #[.bool false, .string c.doc, .int .i64 (id : Int)]) (heap_alloc_new w1 _)) (by intro u hu2; simp [CH1] at hu2; rcases hu2 with rfl | rfl | rfl <;> rfl) (by decide) (by unfold maxLen; omega) (by omega) (Nat.zero_le _) (by simp) ?_
        intro g' cap' w3 hown3 hgrow0 hat3 hlt3
        have hgrow3 : (w1.alloc (.cells #[.bool false, .string c.doc, .int .i64 (id : Int)] 147)).grownBy w3 (Value.slice av cs.length capv).ownBlock := ⟨hgrow0.os, hgrow0.tape, hgrow0.output, hgrow0.size, hgrow0.block⟩
        have R := put_change (c := ⟨false, c.doc, id⟩) (o := .cells #[.bool false, .string c.doc, .int .i64 (id : Int)] 147) hr1 ho1 hown3 hgrow3 hat3
        have hd3 := RefAt.kept (RefAt.below hr1 ((Below.refl _ _).alloc (Nat.le_refl _) (.cells #[.bool false, .string c.doc, .int .i64 (id : Int)] 147))) hgrow3 (ho1.apart hr1)
        have c33 := hd3.c3
        have f33 := hd3.free 3
        have hcd : w3.cell? ⟨gl, k * 3 + 1, none⟩ = some (.string c.doc) := World.grownBy.cell (w := w1.alloc (.cells #[.bool false, .string c.doc, .int .i64 (id : Int)] 147)) hgrow3 (cell_later ((Below.refl _ _).alloc (Nat.le_refl _) _) x1) hgv
        refine hK.out _ _ hcd (fun hHeld => ?_)
        clear hK K
        refine wpAnyH_take (i := 14) (v := ?vc14) rfl (by kernel_rfl) (by kernel_rfl) (by kernel_rfl) (fun _ _ _ h => h) (Or.inl ⟨by rfl, ?hyc14⟩) (by assumption) ?restc14
        case hyc14 => intro w hSw; (try dsimp only at hSw); go_simp; (try with_reducible rfl)
        simp only [Act.put]
        refine wpAnyH_take (i := 15) (v := ?vc15) rfl (by kernel_rfl) (by kernel_rfl) (by kernel_rfl) (fun _ _ _ h => h) (Or.inl ⟨by rfl, ?hyc15⟩) (by assumption) ?restc15
        case hyc15 => intro w hSw; (try dsimp only at hSw); go_simp; (try with_reducible rfl)
        simp only [Act.put]
        refine wpAnyH_ready (rs := [16]) (by kernel_rfl) (by simp) ?_
        refine AllReadyH.cons rfl (fun K hK => ?_) AllReadyH.nil
        go_simp
        refine hK.out _ _ (by rw [World.cell?_setCell_other _ _ _ _ (by simp)]; exact hcd) (fun hHeld => ?_)
        clear hK K
        refine wpAnyH_done (by kernel_rfl) ?_ _
        go_wp2
        go_ret
        exact ⟨rfl, _, R.1, R.2.1, (Only.of_below hb1).trans R.2.2.1, fun j hj => (R.2.2.2 j hj).imp (fun h => h) (fun h => by have := hb1.size; omega)⟩

end Go.Proofs.Ytpikkedeoebiaaa
