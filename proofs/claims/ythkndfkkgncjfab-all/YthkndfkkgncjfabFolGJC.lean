/- ShfA, ShfC, ShfF, ShfG. -/
import Derived.Test.YthkndfkkgncjfabFolGJB
import Derived.Test.YthkndfkkgncjfabFolGJA
import Derived.Deep.MidRow
namespace Go.Proofs.Ythkndfkkgncjfab
open Go.RowKit
set_option maxRecDepth 100000

/-- a document of the shelf, its part -/
abbrev Dc := Nat × Pa.Pg
def DD1 (d : Dc) : List Value := [.int .i64 (d.2.id : Int), .string d.2.doc, .int .i64 (d.1 : Int), .bool d.2.dead, .bool d.2.out]
def DD (ds : List Dc) : List Value := ds.flatMap DD1
theorem DD_append (a b : List Dc) : DD (a ++ b) = DD a ++ DD b := by simp [DD]
theorem DD_get (ds : List Dc) (k j : Nat) (d : Dc) (hd : ds[k]? = some d) (hj : j < 5) : (DD ds)[k * 5 + j]? = (DD1 d)[j]? := by
  induction ds generalizing k with
  | nil => simp at hd
  | cons e r ih =>
    cases k with
    | zero =>
      simp at hd; subst hd
      show (DD1 e ++ DD r)[0 * 5 + j]? = _
      rw [Nat.zero_mul, Nat.zero_add, List.getElem?_append_left (by show j < 5; exact hj)]
    | succ k =>
      simp at hd
      show (DD1 e ++ DD r)[(k + 1) * 5 + j]? = _
      rw [List.getElem?_append_right (by show 5 ≤ _; omega), ← ih k hd]
      congr 1
      show (k + 1) * 5 + j - 5 = _; omega
/-- a row of documents -/
def OwnD (w : World) (B : Nat) (v : Value) (ds : List Dc) : Prop := w.ownsRow B 98 5 v ds.length (DD ds)
/-- a document's cells there -/
def DcAt (w : World) (g k : Nat) (d : Dc) : Prop := w.cell? ⟨g, k * 5, none⟩ = some (.int .i64 (d.2.id : Int)) ∧ w.cell? ⟨g, k * 5 + 1, none⟩ = some (.string d.2.doc) ∧ w.cell? ⟨g, k * 5 + 2, none⟩ = some (.int .i64 (d.1 : Int)) ∧ w.cell? ⟨g, k * 5 + 3, none⟩ = some (.bool d.2.dead) ∧ w.cell? ⟨g, k * 5 + 4, none⟩ = some (.bool d.2.out)
theorem DcAt.later {w w' : World} {g k : Nat} {d : Dc} (h : DcAt w g k d) (hb : Below w.heap.size w w') : DcAt w' g k d := ⟨cell_later hb h.1, cell_later hb h.2.1, cell_later hb h.2.2.1, cell_later hb h.2.2.2.1, cell_later hb h.2.2.2.2⟩
theorem OwnD.below {w w' : World} {B : Nat} {v : Value} {ds : List Dc} (h : OwnD w B v ds) (hb : Below w.heap.size w w') : OwnD w' B v ds := row_below h hb
theorem OwnD.any {w : World} {B : Nat} {v : Value} {ds : List Dc} (h : OwnD w B v ds) : ∃ ao cap, v = .slice ao ds.length cap ∧ ∀ k d, ds[k]? = some d → ∃ g, ao = some ⟨g, 0, none⟩ ∧ DcAt w g k d := by
  rcases h.2 with ⟨e, hn⟩ | ⟨g, cap, cur, e, _⟩
  · refine ⟨none, 0, by rw [e, hn], fun k r hr => ?_⟩
    have hk := (List.getElem?_eq_some_iff.1 hr).1
    omega
  · subst e
    refine ⟨_, cap, rfl, fun k d hd => ⟨g, rfl, ?_⟩⟩
    have hk := (List.getElem?_eq_some_iff.1 hd).1
    have key : ∀ j, j < 5 → w.cell? ⟨g, k * 5 + j, none⟩ = (DD1 d)[j]? := fun j hj => by
      rw [World.ownsRow.cellAt h (k * 5 + j) (by omega), DD_get ds k j d hd hj]
    exact ⟨key 0 (by omega), key 1 (by omega), key 2 (by omega), key 3 (by omega), key 4 (by omega)⟩
theorem OwnD.weaken {w : World} {B C : Nat} {v : Value} {ds : List Dc} (h : OwnD w B v ds) (hc : C ≤ B) : OwnD w C v ds := by
  refine ⟨h.1, ?_⟩
  rcases h.2 with hn | ⟨g1, cap, cur, e, hB, rest⟩
  · exact .inl hn
  · exact .inr ⟨g1, cap, cur, e, Nat.le_trans hc hB, rest⟩
theorem OwnD.apart {w : World} {x : Nat} {b : Box} {B : Nat} {v : Value} {ds : List Dc} (h : BoxAt w x b) (k : OwnD w B v ds) : v.ownBlock ≠ some x := by
  intro e
  rcases k.2 with ⟨h2, _⟩ | ⟨g2, cap2, cur2, h2, _, hg2, _⟩
  · rw [h2] at e; simp [Value.ownBlock] at e
  · rw [h2] at e
    simp [Value.ownBlock] at e
    rw [e, h] at hg2
    simp at hg2
theorem OwnD.apartR {w : World} {B C : Nat} {v u : Value} {ds : List Dc} {l : List Lx.Rw} (h : OwnD w B v ds) (k : OwnR w C u l) : ap v u := by
  intro q h1 h2
  rcases h.2 with ⟨e, _⟩ | ⟨g, cap, cur, e, _, hg, _⟩
  · rw [e] at h1; cases h1
  · rcases k.2 with ⟨e2, _⟩ | ⟨g2, cap2, cur2, e2, _, hg2, _⟩
    · rw [e2] at h2; cases h2
    · rw [e] at h1; rw [e2] at h2
      simp only [Value.ownBlock, Option.some.injEq] at h1 h2
      rw [h1] at hg; rw [h2, hg] at hg2
      simp at hg2
theorem OwnD.only {w w' : World} {B : Nat} {v : Value} {ds : List Dc} {F : Nat → Prop} (k : OwnD w B v ds) (h : Only F w w') (hF : ∀ q, v.ownBlock = some q → ¬ F q) : OwnD w' B v ds := by
  refine ⟨k.1, ?_⟩
  rcases k.2 with h2 | ⟨g2, cap2, cur2, h2, hB, hg2, rest⟩
  · exact .inl h2
  · subst h2
    exact .inr ⟨g2, cap2, cur2, rfl, hB, by rw [h.block g2 (lt_of_block hg2) (hF g2 rfl)]; exact hg2, rest⟩
theorem OwnD.lt {w : World} {B : Nat} {v : Value} {ds : List Dc} (k : OwnD w B v ds) (q : Nat) (hq : v.ownBlock = some q) : q < w.heap.size := (World.ownsRow.lt k q hq).2
/-- one document more -/
theorem OwnD.more {w w1 w0 : World} {B : Nat} {v v' : Value} {m : List Dc} {c : Dc} {o : Obj} (hu : OwnD w B v m) (hbl : Below B w0 w) (hB : B ≤ w.heap.size)
    (h1 : w1.ownsRow B 98 5 v' (m.length + 1) (DD m ++ DD1 c)) (h2 : (w.alloc o).grownBy w1 v.ownBlock) : OwnD w1 B v' (m ++ [c]) ∧ Below B w0 w1 := by
  refine ⟨?_, (hbl.alloc hB o).grown h2 (by simp; omega) (fun k hk => (World.ownsRow.lt hu k hk).1)⟩
  unfold OwnD
  rw [DD_append, List.length_append]
  have : DD [c] = DD1 c := by simp [DD]
  rw [this]; exact h1

/-- what is there -/
def al (ds : List Dc) : List Do.Chg := (ds.filter fun d => !d.2.dead).map fun d => Pa.chg d.2
theorem al_append (a b : List Dc) : al (a ++ b) = al a ++ al b := by simp [al]
theorem al_hit (ds : List Dc) (k : Nat) (d : Dc) (h : ds[k]? = some d) (hd : d.2.dead = false) : al (ds.take (k + 1)) = al (ds.take k) ++ [Pa.chg d.2] := by
  obtain ⟨h1, h2⟩ := List.getElem?_eq_some_iff.1 h
  rw [List.take_succ_eq_append_getElem h1, h2, al_append]
  congr 1
  simp [al, hd]
theorem al_miss (ds : List Dc) (k : Nat) (d : Dc) (h : ds[k]? = some d) (hd : d.2.dead = true) : al (ds.take (k + 1)) = al (ds.take k) := by
  obtain ⟨h1, h2⟩ := List.getElem?_eq_some_iff.1 h
  rw [List.take_succ_eq_append_getElem h1, h2, al_append]
  simp [al, hd]
theorem al_all (ds : List Dc) : al (ds.take ds.length) = al ds := by rw [List.take_of_length_le (Nat.le_refl _)]
theorem al_split (ds : List Dc) (k : Nat) : al ds = al (ds.take k) ++ al (ds.drop k) := by rw [← al_append, List.take_append_drop]

/-- what Find answers -/
def fdRes (cs : List Do.Chg) (id : Int) : ByteArray × Bool := match Do.at? cs id with
  | none => (⟨#[]⟩, false)
  | some k => match cs[k]? with
    | none => (⟨#[]⟩, false)
    | some c => (c.doc, true)
theorem fdRes_some (A B : List Do.Chg) (c : Do.Chg) (id : Int) (hA : ∀ d ∈ A, ((d.id : Int) == id) = false) (hc : ((c.id : Int) == id) = true) : fdRes (A ++ c :: B) id = (c.doc, true) := by
  unfold fdRes
  have hk : (A ++ c :: B)[A.length]? = some c := by simp
  rw [Do.at_some (A ++ c :: B) id A.length c hk hc (fun j d hj hd => by
    rw [List.getElem?_append_left hj] at hd
    exact hA d (List.mem_of_getElem? hd))]
  simp only [hk]
theorem fdRes_none (A : List Do.Chg) (id : Int) (hA : ∀ d ∈ A, ((d.id : Int) == id) = false) : fdRes A id = (⟨#[]⟩, false) := by
  unfold fdRes
  rw [Do.at_none A id (fun j d hd => hA d (List.mem_of_getElem? hd))]

set_option maxHeartbeats 400000 in
theorem sFind_any (x : Nat) (b : Box) (B : Nat) (ds : List Dc) (id : Int) (r : ByteArray × Bool) (w : World) (hr : fdRes (al ds) id = r) (hl : ds.length ≤ 6000) (hb : BoxAt w x b) (h : OwnD w B b.docs ds) :
    Calls Try.prog 44 #[.pointer (some ⟨x, 3, none⟩), .int .i64 id] w fun e w' => e = .returned (.tuple #[.string r.1, .bool r.2]) ∧ Below w.heap.size w w' := by
  obtain ⟨ao, cap, e1, hc⟩ := h.any
  have g4 := hb.g4
  rw [e1] at g4
  have HC : Hid (∀ k d, ds[k]? = some d → ∃ g, ao = some (⟨g, 0, none⟩ : Addr) ∧ DcAt w g k d) := hc
  have HR : Hid (fdRes (al ds) id = r) := hr
  clear hc hr e1
  go_enter Try.func44, Try.ntmps44
  go_wp2_with fail
  go_loopw [13] (fun i wr => ∃ k : Nat, k ≤ ds.length ∧ i = .int .i64 k ∧ Hid (∀ d ∈ al (ds.take k), ((d.id : Int) == id) = false) ∧ Below w.heap.size w wr) (fun i _ => ds.length - (intOf i).toNat)
  case atStart => exact ⟨0, Nat.zero_le _, rfl, fun d hd => by simp [al] at hd, Below.refl _ _⟩
  case round =>
    obtain ⟨k, hk, rfl, HN, hb⟩ := hrel
    by_cases hlt : k < ds.length
    · obtain ⟨d, hdk⟩ : ∃ d, ds[k]? = some d := ⟨ds[k], List.getElem?_eq_getElem hlt⟩
      obtain ⟨g, rfl, hD⟩ := HC.out k d hdk
      obtain ⟨y0, y1, y2, y3, y4⟩ := hD.later hb
      have HK : Hid (ds[k]? = some d) := hdk
      clear hdk hD
      by_cases he : (d.2.id : Int) = id
      · have he1 : ((d.2.id : Int) == id) = true := by rw [beq_iff_eq]; exact he
        cases hdd : d.2.dead
        · rw [hdd] at y3
          have HE : Hid (r = (d.2.doc, true)) := by
            show r = _
            rw [← HR.out, al_split ds (k + 1), al_hit ds k d HK.out hdd, List.append_assoc]
            exact fdRes_some _ _ (Pa.chg d.2) id HN.out he1
          clear he HN HK
          go_wp2
          go_ret2
          exact ⟨by rw [HE.out]; rfl, hb.alloc hb.size _⟩
        · rw [hdd] at y3
          have HN2 : Hid (∀ c ∈ al (ds.take (k + 1)), ((c.id : Int) == id) = false) := by show ∀ c ∈ _, _; rw [al_miss ds k d HK.out hdd]; exact HN.out
          clear he HN HK
          go_wp2
          go_roundw
          case rel => exact ⟨k + 1, by omega, by go_num, HN2, hb.alloc hb.size _⟩
          case measure => simp [intOf]; omega
      · have he1 : ((d.2.id : Int) == id) = false := by rw [beq_eq_false_iff_ne]; exact he
        have HN2 : Hid (∀ c ∈ al (ds.take (k + 1)), ((c.id : Int) == id) = false) := by
          show ∀ c ∈ _, _
          cases hdd : d.2.dead
          · rw [al_hit ds k d HK.out hdd]
            intro c hc
            rw [List.mem_append] at hc
            rcases hc with hc | hc
            · exact HN.out c hc
            · simp at hc; subst hc; exact he1
          · rw [al_miss ds k d HK.out hdd]; exact HN.out
        clear he HN HK
        go_wp2
        go_roundw
        case rel => exact ⟨k + 1, by omega, by go_num, HN2, hb.alloc hb.size _⟩
        case measure => simp [intOf]; omega
    · have hke : k = ds.length := by omega
      subst hke
      have HE : Hid (r = (⟨#[]⟩, false)) := by
        show r = (⟨#[]⟩, false)
        rw [← HR.out, ← al_all ds]
        exact fdRes_none _ id HN.out
      clear HN
      go_wp2
      go_ret2
      exact ⟨by rw [HE.out]; rfl, hb⟩

theorem ids_snoc (L : List Do.Chg) (c : Do.Chg) (t : Int) (n : Nat) : Do.ids (L ++ [c]) t n = if t < (c.id : Int) ∧ (Do.ids L t n).length < n then Do.ids L t n ++ [c.id] else Do.ids L t n := by
  have e : ∀ k, k ≤ L.length → Do.idsTo (L ++ [c]) t n k = Do.idsTo L t n k := by
    intro k hk
    induction k with
    | zero => rfl
    | succ k ih =>
      have hkl : k < L.length := hk
      have h1 : (L ++ [c])[k]? = some L[k] := by rw [List.getElem?_append_left hkl]; exact List.getElem?_eq_getElem hkl
      have h2 : L[k]? = some L[k] := List.getElem?_eq_getElem hkl
      have ih := ih (by omega)
      by_cases h3 : t < (L[k].id : Int) ∧ (Do.idsTo L t n k).length < n
      · rw [Do.idsTo_hit _ _ _ _ _ h2 h3.1 h3.2, Do.idsTo_hit _ _ _ _ _ h1 h3.1 (by rw [ih]; exact h3.2), ih]
      · rw [Do.idsTo_miss _ _ _ _ _ h2 h3, Do.idsTo_miss _ _ _ _ _ h1 (by rw [ih]; exact h3), ih]
  have hc : (L ++ [c])[L.length]? = some c := by simp
  have el : (L ++ [c]).length = L.length + 1 := by simp
  unfold Do.ids
  rw [el]
  have ih := e L.length (Nat.le_refl _)
  by_cases h3 : t < (c.id : Int) ∧ (Do.idsTo L t n L.length).length < n
  · rw [if_pos h3, Do.idsTo_hit _ _ _ _ _ hc h3.1 (by rw [ih]; exact h3.2), ih]
  · rw [if_neg h3, Do.idsTo_miss _ _ _ _ _ hc (by rw [ih]; exact h3), ih]
theorem ids_len (L : List Do.Chg) (t : Int) (n : Nat) : (Do.ids L t n).length ≤ n := Do.idsTo_len L t n _

set_option maxHeartbeats 1000000 in
theorem sIds_any (x : Nat) (b : Box) (B : Nat) (ds : List Dc) (t : Int) (n : Nat) (w : World) (hl : ds.length ≤ 6000) (hn : 1 ≤ n ∧ n ≤ 8) (hb : BoxAt w x b) (h : OwnD w B b.docs ds) :
    Calls Try.prog 87 #[.pointer (some ⟨x, 3, none⟩), .int .i64 t, .int .i64 (n : Int)] w fun e w' => ∃ u, e = .returned u ∧ OwnV w' w.heap.size u (Do.ids (al ds) t n) ∧ Below w.heap.size w w' := by
  obtain ⟨i0, hi, hz0, hz1, hz2⟩ := info_parts Try.info3
  obtain ⟨ao, cap, e1, hc⟩ := h.any
  have g4 := hb.g4
  rw [e1] at g4
  have HC : Hid (∀ k d, ds[k]? = some d → ∃ g, ao = some (⟨g, 0, none⟩ : Addr) ∧ DcAt w g k d) := hc
  clear hc e1
  go_enter Try.func87, Try.ntmps87
  go_wp2
  go_loopw [7, 15] (fun u i wr => ∃ k : Nat, k ≤ ds.length ∧ i = .int .i64 k ∧ OwnV wr w.heap.size u (Do.ids (al (ds.take k)) t n) ∧ Below w.heap.size w wr) (fun _ i _ => ds.length - (intOf i).toNat)
  case atStart => exact ⟨0, Nat.zero_le _, rfl, World.ownsRow_nil _ _ _ _, Below.refl _ _⟩
  case round =>
    obtain ⟨k, hk, rfl, ho, hb⟩ := hrel
    have hil := ids_len (al (ds.take k)) t n
    obtain ⟨av, capo, rfl⟩ := ho.shape2
    by_cases hlt : k < ds.length
    · obtain ⟨d, hdk⟩ : ∃ d, ds[k]? = some d := ⟨ds[k], List.getElem?_eq_getElem hlt⟩
      obtain ⟨g, rfl, hD⟩ := HC.out k d hdk
      obtain ⟨y0, y1, y2, y3, y4⟩ := hD.later hb
      have HK : Hid (ds[k]? = some d) := hdk
      clear hdk hD
      obtain ⟨M, hM⟩ : ∃ M, Do.ids (al (ds.take k)) t n = M := ⟨_, rfl⟩
      have HM : Hid (Do.ids (al (ds.take k)) t n = M) := hM
      rw [hM] at hil ho
      rw [hM]
      clear hM
      cases hdd : d.2.dead
      · rw [hdd] at y3
        have HSN : Hid (Do.ids (al (ds.take (k + 1))) t n = if t < (d.2.id : Int) ∧ M.length < n then M ++ [d.2.id] else M) := by
          show _ = _
          rw [al_hit ds k d HK.out hdd, ids_snoc, HM.out]; rfl
        by_cases h1 : t < (d.2.id : Int)
        · by_cases h2 : M.length < n
          · have h2i : (M.length : Int) < (n : Int) := by omega
            have HN : Hid (Do.ids (al (ds.take (k + 1))) t n = M ++ [d.2.id]) := by show _ = _; rw [HSN.out, if_pos ⟨h1, h2⟩]
            have ho2 : OwnV (wr.alloc (.cells #[.int .i64 (d.2.id : Int), .string d.2.doc, .int .i64 (d.1 : Int), .bool false, .bool d.2.out] 98)) w.heap.size (.slice av M.length capo) M := World.ownsRow.alloc ho _
            have hb2 : Below w.heap.size w (wr.alloc (.cells #[.int .i64 (d.2.id : Int), .string d.2.doc, .int .i64 (d.1 : Int), .bool false, .bool d.2.out] 98)) := hb.alloc hb.size _
            go_wp2_with (at_builtin; refine wpList_append_own _ rfl _ _ 35 rfl w.heap.size 3 i0 (.int .i64 0) 1 8 Try.underlying35 hi hz0 hz1 hz2 rfl (by decide) _ _ _ rfl (World.ownsRow.alloc ho2 _) ⟨wr.heap.size + 1, 0, none⟩ 1 1 [.int .i64 (d.2.id : Int)] rfl rfl (news_two wr _ #[.int .i64 (d.2.id : Int)] _) (by intro u hu2; simp at hu2; subst hu2; rfl) (by unfold maxLen; omega) (by omega) (by have := hb2.size; simp at this ⊢; omega) ?_; intro v' w3 hown3 hgrow3 _)
            have R1 : OwnV w3 w.heap.size v' (M ++ [d.2.id]) := by
              rw [I_append] at hown3
              unfold OwnV
              simpa using hown3
            have R2 : Below w.heap.size w w3 := (hb2.alloc hb2.size _).grown hgrow3 (by have := hb2.size; simp at this ⊢; omega) (fun q hq => (World.ownsRow.lt ho2 q hq).1)
            clear hown3 hgrow3 ho2 hb2 ho hb
            go_wp2
            go_roundw
            case rel => exact ⟨k + 1, by omega, by go_num, by rw [HN.out]; exact R1, R2⟩
            case measure => simp [intOf]; omega
          · have h2i : decide ((M.length : Int) < (n : Int)) = false := by rw [decide_eq_false_iff_not]; omega
            have HMI : Hid (Do.ids (al (ds.take (k + 1))) t n = M) := by show _ = _; rw [HSN.out, if_neg (fun h => h2 h.2)]
            go_wp2
            go_roundw
            case rel => exact ⟨k + 1, by omega, by go_num, by rw [HMI.out]; exact World.ownsRow.alloc ho _, hb.alloc hb.size _⟩
            case measure => simp [intOf]; omega
        · have h1i : decide (t < (d.2.id : Int)) = false := by rw [decide_eq_false_iff_not]; omega
          have HMI : Hid (Do.ids (al (ds.take (k + 1))) t n = M) := by show _ = _; rw [HSN.out, if_neg (fun h => h1 h.1)]
          go_wp2
          go_roundw
          case rel => exact ⟨k + 1, by omega, by go_num, by rw [HMI.out]; exact World.ownsRow.alloc ho _, hb.alloc hb.size _⟩
          case measure => simp [intOf]; omega
      · rw [hdd] at y3
        have HMI : Hid (Do.ids (al (ds.take (k + 1))) t n = M) := by show _ = _; rw [al_miss ds k d HK.out hdd, HM.out]
        go_wp2
        go_roundw
        case rel => exact ⟨k + 1, by omega, by go_num, by rw [HMI.out]; exact World.ownsRow.alloc ho _, hb.alloc hb.size _⟩
        case measure => simp [intOf]; omega
    · have hke : k = ds.length := by omega
      subst hke
      rw [al_all] at ho ⊢
      go_wp2
      go_ret
      exact ⟨_, rfl, ho, hb⟩

end Go.Proofs.Ythkndfkkgncjfab

namespace Go.Proofs.Ythkndfkkgncjfab
open Go.RowKit
set_option maxRecDepth 100000

/-- Stats' cells -/
def StAt (w : World) (s : Nat) (n0 n1 n2 n3 n4 n5 n6 n7 n8 : Int) : Prop := w.heap[s]? = some (.cells #[.int .i64 n0, .int .i64 n1, .int .i64 n2, .int .i64 n3, .int .i64 n4, .int .i64 n5, .int .i64 n6, .int .i64 n7, .int .i64 n8] 50 (0, 0))
section
variable {w w' : World} {s : Nat} {n0 n1 n2 n3 n4 n5 n6 n7 n8 : Int}
theorem StAt.lt (h : StAt w s n0 n1 n2 n3 n4 n5 n6 n7 n8) : s < w.heap.size := lt_of_block h
theorem StAt.free (h : StAt w s n0 n1 n2 n3 n4 n5 n6 n7 n8) (j : Nat) : w.frozen? ⟨s, j, none⟩ = false := frozen_of_row w s j _ 50 h
theorem StAt.other (h : StAt w s n0 n1 n2 n3 n4 n5 n6 n7 n8) (p : Addr) (u : Value) (hne : s ≠ p.block) : StAt (w.setCell p u) s n0 n1 n2 n3 n4 n5 n6 n7 n8 := (Below.heap_setCell w p u s hne).trans h
theorem StAt.below (h : StAt w s n0 n1 n2 n3 n4 n5 n6 n7 n8) (hb : Below w.heap.size w w') : StAt w' s n0 n1 n2 n3 n4 n5 n6 n7 n8 := (hb.block s h.lt).trans h
theorem StAt.c0 (h : StAt w s n0 n1 n2 n3 n4 n5 n6 n7 n8) : w.cell? ⟨s, 0, none⟩ = some (.int .i64 n0) := by rw [cell_of_row w s 0 _ 50 (0, 0) h]; rfl
theorem StAt.s0 (h : StAt w s n0 n1 n2 n3 n4 n5 n6 n7 n8) (u : Int) : StAt (w.setCell ⟨s, 0, none⟩ (.int .i64 u)) s u n1 n2 n3 n4 n5 n6 n7 n8 := (heap_setCell_same w s 0 _ 50 _ h).trans rfl
theorem StAt.c1 (h : StAt w s n0 n1 n2 n3 n4 n5 n6 n7 n8) : w.cell? ⟨s, 1, none⟩ = some (.int .i64 n1) := by rw [cell_of_row w s 1 _ 50 (0, 0) h]; rfl
theorem StAt.s1 (h : StAt w s n0 n1 n2 n3 n4 n5 n6 n7 n8) (u : Int) : StAt (w.setCell ⟨s, 1, none⟩ (.int .i64 u)) s n0 u n2 n3 n4 n5 n6 n7 n8 := (heap_setCell_same w s 1 _ 50 _ h).trans rfl
theorem StAt.c2 (h : StAt w s n0 n1 n2 n3 n4 n5 n6 n7 n8) : w.cell? ⟨s, 2, none⟩ = some (.int .i64 n2) := by rw [cell_of_row w s 2 _ 50 (0, 0) h]; rfl
theorem StAt.s2 (h : StAt w s n0 n1 n2 n3 n4 n5 n6 n7 n8) (u : Int) : StAt (w.setCell ⟨s, 2, none⟩ (.int .i64 u)) s n0 n1 u n3 n4 n5 n6 n7 n8 := (heap_setCell_same w s 2 _ 50 _ h).trans rfl
theorem StAt.c3 (h : StAt w s n0 n1 n2 n3 n4 n5 n6 n7 n8) : w.cell? ⟨s, 3, none⟩ = some (.int .i64 n3) := by rw [cell_of_row w s 3 _ 50 (0, 0) h]; rfl
theorem StAt.s3 (h : StAt w s n0 n1 n2 n3 n4 n5 n6 n7 n8) (u : Int) : StAt (w.setCell ⟨s, 3, none⟩ (.int .i64 u)) s n0 n1 n2 u n4 n5 n6 n7 n8 := (heap_setCell_same w s 3 _ 50 _ h).trans rfl
theorem StAt.c4 (h : StAt w s n0 n1 n2 n3 n4 n5 n6 n7 n8) : w.cell? ⟨s, 4, none⟩ = some (.int .i64 n4) := by rw [cell_of_row w s 4 _ 50 (0, 0) h]; rfl
theorem StAt.s4 (h : StAt w s n0 n1 n2 n3 n4 n5 n6 n7 n8) (u : Int) : StAt (w.setCell ⟨s, 4, none⟩ (.int .i64 u)) s n0 n1 n2 n3 u n5 n6 n7 n8 := (heap_setCell_same w s 4 _ 50 _ h).trans rfl
theorem StAt.c5 (h : StAt w s n0 n1 n2 n3 n4 n5 n6 n7 n8) : w.cell? ⟨s, 5, none⟩ = some (.int .i64 n5) := by rw [cell_of_row w s 5 _ 50 (0, 0) h]; rfl
theorem StAt.s5 (h : StAt w s n0 n1 n2 n3 n4 n5 n6 n7 n8) (u : Int) : StAt (w.setCell ⟨s, 5, none⟩ (.int .i64 u)) s n0 n1 n2 n3 n4 u n6 n7 n8 := (heap_setCell_same w s 5 _ 50 _ h).trans rfl
theorem StAt.c6 (h : StAt w s n0 n1 n2 n3 n4 n5 n6 n7 n8) : w.cell? ⟨s, 6, none⟩ = some (.int .i64 n6) := by rw [cell_of_row w s 6 _ 50 (0, 0) h]; rfl
theorem StAt.s6 (h : StAt w s n0 n1 n2 n3 n4 n5 n6 n7 n8) (u : Int) : StAt (w.setCell ⟨s, 6, none⟩ (.int .i64 u)) s n0 n1 n2 n3 n4 n5 u n7 n8 := (heap_setCell_same w s 6 _ 50 _ h).trans rfl
theorem StAt.c7 (h : StAt w s n0 n1 n2 n3 n4 n5 n6 n7 n8) : w.cell? ⟨s, 7, none⟩ = some (.int .i64 n7) := by rw [cell_of_row w s 7 _ 50 (0, 0) h]; rfl
theorem StAt.s7 (h : StAt w s n0 n1 n2 n3 n4 n5 n6 n7 n8) (u : Int) : StAt (w.setCell ⟨s, 7, none⟩ (.int .i64 u)) s n0 n1 n2 n3 n4 n5 n6 u n8 := (heap_setCell_same w s 7 _ 50 _ h).trans rfl
theorem StAt.c8 (h : StAt w s n0 n1 n2 n3 n4 n5 n6 n7 n8) : w.cell? ⟨s, 8, none⟩ = some (.int .i64 n8) := by rw [cell_of_row w s 8 _ 50 (0, 0) h]; rfl
theorem StAt.s8 (h : StAt w s n0 n1 n2 n3 n4 n5 n6 n7 n8) (u : Int) : StAt (w.setCell ⟨s, 8, none⟩ (.int .i64 u)) s n0 n1 n2 n3 n4 n5 n6 n7 u := (heap_setCell_same w s 8 _ 50 _ h).trans rfl
end
theorem Try.sizeT147 : (Try.prog.info? 50).map (·.size) = some 9 := by kernel_rfl
theorem below_setRow {w wr : World} {cells : Array Value} (h : Below w.heap.size w wr) : Below w.heap.size w (wr.setRow w.heap.size cells) := by
  refine ⟨h.os, h.tape, h.output, by simpa [World.setRow] using h.size, fun k hk => ?_⟩
  rw [← h.block k hk]
  have hne : w.heap.size ≠ k := by omega
  simp [World.setRow, Array.getElem?_modify, hne]
/-- a document's own cells -/
def DocAt (w : World) (g : Nat) (d : Dc) : Prop := w.heap[g]? = some (.cells #[.int .i64 (d.2.id : Int), .string d.2.doc, .int .i64 (d.1 : Int), .bool d.2.dead, .bool d.2.out] 98 (0, 0))
theorem DocAt.other {w : World} {g : Nat} {d : Dc} (h : DocAt w g d) (p : Addr) (u : Value) (hne : g ≠ p.block) : DocAt (w.setCell p u) g d := (Below.heap_setCell w p u g hne).trans h
theorem DocAt.c1 {w : World} {g : Nat} {d : Dc} (h : DocAt w g d) : w.cell? ⟨g, 1, none⟩ = some (.string d.2.doc) := by rw [cell_of_row w g 1 _ 98 (0, 0) h]; rfl
theorem DocAt.c2 {w : World} {g : Nat} {d : Dc} (h : DocAt w g d) : w.cell? ⟨g, 2, none⟩ = some (.int .i64 (d.1 : Int)) := by rw [cell_of_row w g 2 _ 98 (0, 0) h]; rfl
theorem DocAt.c3 {w : World} {g : Nat} {d : Dc} (h : DocAt w g d) : w.cell? ⟨g, 3, none⟩ = some (.bool d.2.dead) := by rw [cell_of_row w g 3 _ 98 (0, 0) h]; rfl
/-- the weight of a part -/
def W (q : Nat) (ds : List Dc) : Nat := Pa.wt ((ds.filter fun d => d.1 == q).map (·.2))
def Wd (ds : List Dc) : Nat := Pa.wt ((ds.filter fun d => d.1 == 0 && d.2.dead).map (·.2))
theorem W_succ (q : Nat) (ds : List Dc) (k : Nat) (d : Dc) (h : ds[k]? = some d) : W q (ds.take (k + 1)) = W q (ds.take k) + (if d.1 = q then d.2.doc.size + 1 else 0) := by
  obtain ⟨h1, h2⟩ := List.getElem?_eq_some_iff.1 h
  unfold W
  rw [List.take_succ_eq_append_getElem h1, h2, List.filter_append, List.map_append, Pa.wt_append]
  congr 1
  by_cases e : d.1 = q
  · simp [e, Pa.wt, Pa.Pg.w]
  · simp [e, Pa.wt]
theorem Wd_succ (ds : List Dc) (k : Nat) (d : Dc) (h : ds[k]? = some d) : Wd (ds.take (k + 1)) = Wd (ds.take k) + (if d.1 = 0 ∧ d.2.dead = true then d.2.doc.size + 1 else 0) := by
  obtain ⟨h1, h2⟩ := List.getElem?_eq_some_iff.1 h
  unfold Wd
  rw [List.take_succ_eq_append_getElem h1, h2, List.filter_append, List.map_append, Pa.wt_append]
  congr 1
  by_cases e : d.1 = 0 ∧ d.2.dead = true
  · simp [e, Pa.wt, Pa.Pg.w]
  · rw [if_neg e]
    have : (d.1 == 0 && d.2.dead) = false := by
      rw [Bool.eq_false_iff]
      intro h
      rw [Bool.and_eq_true, beq_iff_eq] at h
      exact e h
    simp [this, Pa.wt]
theorem W_le (q : Nat) (ds : List Dc) (h : ∀ d ∈ ds, d.2.doc.size ≤ 40) : ∀ k, W q (ds.take k) ≤ 41 * k := by
  intro k
  induction k with
  | zero => simp [W, Pa.wt]
  | succ k ih =>
    rcases Nat.lt_or_ge k ds.length with hk | hk
    · rw [W_succ q ds k ds[k] (List.getElem?_eq_getElem hk)]
      have := h ds[k] (List.getElem_mem hk)
      split <;> omega
    · have e : ds.take (k + 1) = ds.take k := by rw [List.take_of_length_le (by omega), List.take_of_length_le hk]
      rw [e]; omega
theorem Wd_le (ds : List Dc) (h : ∀ d ∈ ds, d.2.doc.size ≤ 40) : ∀ k, Wd (ds.take k) ≤ 41 * k := by
  intro k
  induction k with
  | zero => simp [Wd, Pa.wt]
  | succ k ih =>
    rcases Nat.lt_or_ge k ds.length with hk | hk
    · rw [Wd_succ ds k ds[k] (List.getElem?_eq_getElem hk)]
      have := h ds[k] (List.getElem_mem hk)
      split <;> omega
    · have e : ds.take (k + 1) = ds.take k := by rw [List.take_of_length_le (by omega), List.take_of_length_le hk]
      rw [e]; omega
theorem al_len (ds : List Dc) (k : Nat) : (al (ds.take k)).length ≤ k := by
  unfold al
  rw [List.length_map]
  exact Nat.le_trans (List.length_filter_le _ _) (by rw [List.length_take]; omega)
theorem size_le (cs : List Do.Chg) (h : ∀ c ∈ cs, c.doc.size ≤ 40) : Do.size cs ≤ 40 * cs.length := Do.sizeTo_le cs h _
theorem al_small (ds : List Dc) (h : ∀ d ∈ ds, d.2.doc.size ≤ 40) (k : Nat) : Do.size (al (ds.take k)) ≤ 40 * k := by
  have h1 := al_len ds k
  have h2 := size_le (al (ds.take k)) (fun c hc => by
    unfold al at hc
    rw [List.mem_map] at hc
    obtain ⟨d, hd, rfl⟩ := hc
    exact h d (List.mem_of_mem_take (List.mem_filter.1 hd).1))
  omega

set_option maxHeartbeats 4000000 in
theorem sStats_any (x : Nat) (b : Box) (B : Nat) (ds : List Dc) (lf : Nat) (hn : Int) (w : World) (hl : ds.length ≤ 6000) (hsm : ∀ d ∈ ds, d.2.doc.size ≤ 40) (hpt : ∀ d ∈ ds, d.1 ≤ 2) (hb : BoxAt w x b) (h : OwnD w B b.docs ds) (h1 : b.left = .int .i64 (lf : Int)) (h2 : b.hand = .int .i64 hn) :
    Calls Try.prog 27 #[.pointer (some ⟨x, 3, none⟩)] w fun e w' => e = .returned (.agg #[.int .i64 ((al ds).length : Int), .int .i64 (Do.size (al ds) : Nat), .int .i64 (W 0 ds : Nat), .int .i64 (W 1 ds : Nat), .int .i64 (W 2 ds : Nat), .int .i64 (Wd ds : Nat), .int .i64 (lf : Int), .int .i64 (if 0 < lf then 1 else 0), .int .i64 hn]) ∧ Below w.heap.size w w' := by
  obtain ⟨ao, cap, e1, hc⟩ := h.any
  have g4 := hb.g4
  have g20 := hb.g20
  have g22 := hb.g22
  rw [e1] at g4
  rw [h1] at g20
  rw [h2] at g22
  have HC : Hid (∀ k d, ds[k]? = some d → ∃ g, ao = some (⟨g, 0, none⟩ : Addr) ∧ DcAt w g k d) := hc
  have HSM : Hid (∀ d ∈ ds, d.2.doc.size ≤ 40) := hsm
  have HPT : Hid (∀ d ∈ ds, d.1 ≤ 2) := hpt
  clear hc e1 h1 h2 hsm hpt
  have hb0 : ∀ o, Below w.heap.size w (w.alloc o) := fun o => (Below.refl _ _).alloc (Nat.le_refl _) o
  have hs0 : ∀ o, (w.alloc o).heap.size = w.heap.size + 1 := fun o => by simp
  go_enter Try.func27, Try.ntmps27
  go_wp2_with fail
  obtain ⟨w1, hw1⟩ : ∃ w1, w1 = w.alloc (Obj.cells #[.int .i64 0, .int .i64 0, .int .i64 0, .int .i64 0, .int .i64 0, .int .i64 0, .int .i64 0, .int .i64 0, .int .i64 0] 50) := ⟨_, rfl⟩
  rw [← hw1]
  have hb1 : Below w.heap.size w w1 := by rw [hw1]; exact hb0 _
  have hs1 : w1.heap.size = w.heap.size + 1 := by rw [hw1]; exact hs0 _
  have hr1 : StAt w1 w.heap.size 0 0 0 0 0 0 0 0 0 := by rw [hw1]; exact heap_alloc_new w _
  clear hw1 hb0 hs0
  have k20 := cell_later hb1 g20
  have k22 := cell_later hb1 g22
  have hba : ∀ o, Below w1.heap.size w1 (w1.alloc o).drew := fun o => ((Below.refl _ _).alloc (Nat.le_refl _) o).drew
  have hS : ∀ o, (w1.alloc o).drew.cell? ⟨x, 20, none⟩ = some (.int .i64 (lf : Int)) ∧ (w1.alloc o).drew.cell? ⟨x, 22, none⟩ = some (.int .i64 hn) := fun o => ⟨cell_later (hba o) k20, cell_later (hba o) k22⟩
  refine wp_region_held_drew (S := fun w' => w'.cell? ⟨x, 20, none⟩ = some (.int .i64 (lf : Int)) ∧ w'.cell? ⟨x, 22, none⟩ = some (.int .i64 hn)) (by kernel_rfl) ⟨k20, k22⟩ (fun hHeld => ?_)
  refine wpAnyH_take (i := 0) (v := ?a0) rfl (by kernel_rfl) (by kernel_rfl) (by kernel_rfl) (fun _ _ _ h => h) (Or.inl ⟨by rfl, ?hya0⟩) (by assumption) ?resta0
  case hya0 => intro w hSw; (try dsimp only at hSw); go_simp; (try with_reducible rfl)
  simp only [Act.put]
  refine wpAnyH_take (i := 1) (v := ?a1) rfl (by kernel_rfl) (by kernel_rfl) (by kernel_rfl) (fun _ _ _ h => h) (Or.inl ⟨by rfl, ?hya1⟩) (by assumption) ?resta1
  case hya1 => intro w hSw; (try dsimp only at hSw); go_simp; (try with_reducible rfl)
  simp only [Act.put]
  refine wpAnyH_take (i := 2) (v := ?a2) rfl (by kernel_rfl) (by kernel_rfl) (by kernel_rfl) (fun _ _ _ h => h) (Or.inl ⟨by rfl, ?hya2⟩) (by assumption) ?resta2
  case hya2 => intro w hSw; (try dsimp only at hSw); go_simp; (try with_reducible rfl)
  simp only [Act.put]
  refine wpAnyH_take (i := 3) (v := ?a3) rfl (by kernel_rfl) (by kernel_rfl) (by kernel_rfl) (fun _ _ _ h => h) (Or.inl ⟨by rfl, ?hya3⟩) (by assumption) ?resta3
  case hya3 => intro w hSw; (try dsimp only at hSw); go_simp; (try with_reducible rfl)
  simp only [Act.put]
  refine wpAnyH_take (i := 4) (v := ?a4) rfl (by kernel_rfl) (by kernel_rfl) (by kernel_rfl) (fun _ _ _ h => h) (Or.inl ⟨by rfl, ?hya4⟩) (by assumption) ?resta4
  case hya4 => intro w hSw; (try dsimp only at hSw); go_simp; (try with_reducible rfl)
  simp only [Act.put]
  refine wpAnyH_take (i := 5) (v := ?a5) rfl (by kernel_rfl) (by kernel_rfl) (by kernel_rfl) (fun _ _ _ h => h) (Or.inl ⟨by rfl, ?hya5⟩) (by assumption) ?resta5
  case hya5 => intro w hSw; (try dsimp only at hSw); go_simp; (try with_reducible rfl)
  simp only [Act.put]
  refine wpAnyH_take (i := 6) (v := ?a6) rfl (by kernel_rfl) (by kernel_rfl) (by kernel_rfl) (fun _ _ _ h => h) (Or.inl ⟨by rfl, ?hya6⟩) (by assumption) ?resta6
  case hya6 => intro w hSw; (try dsimp only at hSw); go_simp; (try with_reducible rfl)
  simp only [Act.put]
  refine wpAnyH_take (i := 7) (v := ?a7) rfl (by kernel_rfl) (by kernel_rfl) (by kernel_rfl) (fun _ _ _ h => h) (Or.inl ⟨by rfl, ?hya7⟩) (by assumption) ?resta7
  case hya7 => intro w hSw; (try dsimp only at hSw); go_simp; (try with_reducible rfl)
  simp only [Act.put]
  refine wpAnyH_take (i := 8) (v := ?a8) rfl (by kernel_rfl) (by kernel_rfl) (by kernel_rfl) (fun _ _ _ h => h) (Or.inl ⟨by rfl, ?hya8⟩) (by assumption) ?resta8
  case hya8 => intro w hSw; (try dsimp only at hSw); go_simp; (try with_reducible rfl)
  simp only [Act.put]
  refine wpAnyH_ready (rs := [9]) (by kernel_rfl) (by simp) ?_
  refine AllReadyH.cons rfl (fun K hK => ?_) AllReadyH.nil
  go_simp
  refine hK.out _ _ (hS _) (fun hHeld => ?_)
  clear hK K
  refine wpAnyH_ready (rs := [10]) (by kernel_rfl) (by simp) ?_
  refine AllReadyH.cons rfl (fun K hK => ?_) AllReadyH.nil
  go_simp
  refine hK.out _ _ (hS _) (fun hHeld => ?_)
  clear hK K
  refine wpAnyH_done (by kernel_rfl) ?_ _
  have hst := heap_alloc_new w1 (.cells #[.int .i64 0, .int .i64 0, .int .i64 0, .int .i64 0, .int .i64 0, .int .i64 0, .int .i64 (lf : Int), .int .i64 0, .int .i64 hn] 50)
  obtain ⟨w2, hw2⟩ : ∃ w2, w2 = (w1.alloc (.cells #[.int .i64 0, .int .i64 0, .int .i64 0, .int .i64 0, .int .i64 0, .int .i64 0, .int .i64 (lf : Int), .int .i64 0, .int .i64 hn] 50)).drew := ⟨_, rfl⟩
  have hS2 : StAt w2 w1.heap.size 0 0 0 0 0 0 lf 0 hn := by rw [hw2]; exact hst
  rw [hs1] at hS2
  have hb2 : Below w.heap.size w w2 := by rw [hw2]; exact hb1.trans ((hba _).mono (by omega))
  have hb12 : Below w1.heap.size w1 w2 := by rw [hw2]; exact hba _
  rw [← hw2]
  clear hw2 hst hHeld hS hba k22
  have j20 := cell_later hb12 k20
  have hr2 := hr1.below hb12
  clear k20 hb12 hr1
  by_cases hlf : 0 < lf
  · have d1 : decide ((0 : Int) < (lf : Int)) = true := by rw [decide_eq_true_eq]; omega
    have u7 := hS2.c7
    have f7 := hS2.free 7
    have hS3 := hS2.s7 1
    have hb3 : Below w.heap.size w (w2.setCell ⟨w.heap.size + 1, 7, none⟩ (.int .i64 1)) := hb2.setCell (by show w.heap.size ≤ w.heap.size + 1; omega) _
    have j4 := cell_later hb3 g4
    go_wp2_with fail
    have HON : Hid ((if 0 < lf then (1 : Int) else 0) = 1) := by show _ = _; rw [if_pos hlf]
    obtain ⟨w3, hw3⟩ : ∃ w3, w3 = w2.setCell ⟨w.heap.size + 1, 7, none⟩ (.int .i64 1) := ⟨_, rfl⟩
    have hS4 : StAt w3 (w.heap.size + 1) 0 0 0 0 0 0 lf 1 hn := by rw [hw3]; exact hS3
    have hr4 : StAt w3 w.heap.size 0 0 0 0 0 0 0 0 0 := by rw [hw3]; exact hr2.other ⟨w.heap.size + 1, 7, none⟩ (.int .i64 1) (by show w.heap.size ≠ w.heap.size + 1; omega)
    have hb4 : Below w.heap.size w w3 := by rw [hw3]; exact hb3
    rw [← hw3]
    go_loopw [27] (fun i wr => ∃ k : Nat, k ≤ ds.length ∧ i = .int .i64 k ∧ StAt wr (w.heap.size + 1) ((al (ds.take k)).length : Nat) (Do.size (al (ds.take k)) : Nat) (W 0 (ds.take k) : Nat) (W 1 (ds.take k) : Nat) (W 2 (ds.take k) : Nat) (Wd (ds.take k) : Nat) lf 1 hn ∧ StAt wr w.heap.size 0 0 0 0 0 0 0 0 0 ∧ Below w.heap.size w wr) (fun i _ => ds.length - (intOf i).toNat)
    case atStart => exact ⟨0, Nat.zero_le _, rfl, hS4, hr4, hb4⟩
    case round =>
      obtain ⟨k, hk, rfl, hst, hres, hb⟩ := hrel
      have b0 := W_le 0 ds HSM.out k
      have b1 := W_le 1 ds HSM.out k
      have b2 := W_le 2 ds HSM.out k
      have b3 := Wd_le ds HSM.out k
      have b4 := al_len ds k
      have b5 := al_small ds HSM.out k
      by_cases hlt : k < ds.length
      · obtain ⟨d, hdk⟩ : ∃ d, ds[k]? = some d := ⟨ds[k], List.getElem?_eq_getElem hlt⟩
        obtain ⟨g, rfl, hD⟩ := HC.out k d hdk
        obtain ⟨y0, y1, y2, y3, y4⟩ := hD.later hb
        have hds := HSM.out d (List.mem_of_getElem? hdk)
        have hdp := HPT.out d (List.mem_of_getElem? hdk)
        have e0 := W_succ 0 ds k d hdk
        have e1 := W_succ 1 ds k d hdk
        have e2 := W_succ 2 ds k d hdk
        have e3 := Wd_succ ds k d hdk
        have HA : Hid (al (ds.take (k + 1)) = if d.2.dead then al (ds.take k) else al (ds.take k) ++ [Pa.chg d.2]) := by
          show _ = _
          cases hdd : d.2.dead
          · exact al_hit ds k d hdk hdd
          · exact al_miss ds k d hdk hdd
        clear hdk hD
        generalize W 0 (ds.take k) = a0 at *
        generalize W 1 (ds.take k) = a1 at *
        generalize W 2 (ds.take k) = a2 at *
        generalize Wd (ds.take k) = a3 at *
        have HZ : Hid (Do.size (al (ds.take k) ++ [Pa.chg d.2]) = Do.size (al (ds.take k)) + d.2.doc.size) := Do.sizes_append _ _
        generalize al (ds.take k) = A at *
        generalize hz : Do.size A = z at *
        generalize hA : A.length = n0 at *
        obtain ⟨pt, pg⟩ := d
        obtain ⟨id, doc, dd, ot⟩ := pg
        simp only at *
        have E0 : Hid _ := e0
        have E1 : Hid _ := e1
        have E2 : Hid _ := e2
        have E3 : Hid _ := e3
        have HZ' : Hid (Do.size A = z) := hz
        have HL' : Hid (A.length = n0) := hA
        clear e0 e1 e2 e3 hz hA
        have q0 : a0 + (doc.size + 1) ≤ 1000000 := by omega
        have q1 : a1 + (doc.size + 1) ≤ 1000000 := by omega
        have q2 : a2 + (doc.size + 1) ≤ 1000000 := by omega
        have q3 : a3 + (doc.size + 1) ≤ 1000000 := by omega
        have q4 : n0 + 1 ≤ 1000000 := by omega
        have q5 : z + doc.size ≤ 1000000 := by omega
        have hSl := hst.lt
        have hne : wr.heap.size ≠ w.heap.size + 1 := by omega
        have hin : w.heap.size ≤ w.heap.size + 1 := by omega
        have hrs : w.heap.size ≠ w.heap.size + 1 := by omega
        by_cases c0true : pt = 0 ∧ dd = true
        · obtain ⟨rfl, rfl⟩ := c0true
          have H0 := hst
          have B0 := hb
          have K0 := H0.below ((Below.refl _ _).alloc (Nat.le_refl _) (.cells #[.int .i64 (id : Int), .string doc, .int .i64 0, .bool true, .bool ot] 98))
          have t0 := K0.c2
          have s0 := K0.free 2
          have H1 := H0.s2 ((a0 : Int) + ((doc.size : Int) + 1))
          have B1 := B0.setCell (p := ⟨w.heap.size + 1, 2, none⟩) hin (.int .i64 ((a0 : Int) + ((doc.size : Int) + 1)))
          have D1 : DocAt ((wr.setCell ⟨w.heap.size + 1, 2, none⟩ (.int .i64 ((a0 : Int) + ((doc.size : Int) + 1)))).alloc (.cells #[.int .i64 (id : Int), .string doc, .int .i64 0, .bool true, .bool ot] 98)) wr.heap.size (0, ⟨id, doc, true, ot⟩) := by
            have := heap_alloc_new (wr.setCell ⟨w.heap.size + 1, 2, none⟩ (.int .i64 ((a0 : Int) + ((doc.size : Int) + 1)))) (.cells #[.int .i64 (id : Int), .string doc, .int .i64 0, .bool true, .bool ot] 98)
            simpa [DocAt] using this
          have p01 := D1.c1
          have p02 := D1.c2
          have p03 := D1.c3
          have K1 := H1.below ((Below.refl _ _).alloc (Nat.le_refl _) (.cells #[.int .i64 (id : Int), .string doc, .int .i64 0, .bool true, .bool ot] 98))
          have t1 := K1.c5
          have s1 := K1.free 5
          have H2 := H1.s5 ((a3 : Int) + ((doc.size : Int) + 1))
          have B2 := B1.setCell (p := ⟨w.heap.size + 1, 5, none⟩) hin (.int .i64 ((a3 : Int) + ((doc.size : Int) + 1)))
          have D2 : DocAt (((wr.setCell ⟨w.heap.size + 1, 2, none⟩ (.int .i64 ((a0 : Int) + ((doc.size : Int) + 1)))).setCell ⟨w.heap.size + 1, 5, none⟩ (.int .i64 ((a3 : Int) + ((doc.size : Int) + 1)))).alloc (.cells #[.int .i64 (id : Int), .string doc, .int .i64 0, .bool true, .bool ot] 98)) wr.heap.size (0, ⟨id, doc, true, ot⟩) := by
            have := heap_alloc_new ((wr.setCell ⟨w.heap.size + 1, 2, none⟩ (.int .i64 ((a0 : Int) + ((doc.size : Int) + 1)))).setCell ⟨w.heap.size + 1, 5, none⟩ (.int .i64 ((a3 : Int) + ((doc.size : Int) + 1)))) (.cells #[.int .i64 (id : Int), .string doc, .int .i64 0, .bool true, .bool ot] 98)
            simpa [DocAt] using this
          have p11 := D2.c1
          have p12 := D2.c2
          have p13 := D2.c3
          have RF : Hid (StAt _ _ _ _ _ _ _ _ _ _ _) := H2.below ((Below.refl _ _).alloc (Nat.le_refl _) (.cells #[.int .i64 (id : Int), .string doc, .int .i64 0, .bool true, .bool ot] 98))
          have QF : Hid (StAt _ _ _ _ _ _ _ _ _ _ _) := (((hres.other ⟨w.heap.size + 1, 2, none⟩ (.int .i64 ((a0 : Int) + ((doc.size : Int) + 1))) hrs).other ⟨w.heap.size + 1, 5, none⟩ (.int .i64 ((a3 : Int) + ((doc.size : Int) + 1))) hrs)).below ((Below.refl _ _).alloc (Nat.le_refl _) (.cells #[.int .i64 (id : Int), .string doc, .int .i64 0, .bool true, .bool ot] 98))
          have BF : Hid (Below _ _ _) := B2.alloc B2.size (.cells #[.int .i64 (id : Int), .string doc, .int .i64 0, .bool true, .bool ot] 98)
          clear hst hres H0 B0 H1 B1 H2 B2 K0 D1 K1 D2
          go_wp2_with fail
          go_roundw
          case rel =>
            refine ⟨k + 1, by omega, by go_num, ?_, QF.out, BF.out⟩
            rw [HA.out, E0.out, E1.out, E2.out, E3.out]
            simp only [if_true, HL'.out, HZ'.out]
            exact RF.out
          case measure => simp [intOf]; omega
        by_cases c0false : pt = 0 ∧ dd = false
        · obtain ⟨rfl, rfl⟩ := c0false
          have H0 := hst
          have B0 := hb
          have K0 := H0.below ((Below.refl _ _).alloc (Nat.le_refl _) (.cells #[.int .i64 (id : Int), .string doc, .int .i64 0, .bool false, .bool ot] 98))
          have t0 := K0.c2
          have s0 := K0.free 2
          have H1 := H0.s2 ((a0 : Int) + ((doc.size : Int) + 1))
          have B1 := B0.setCell (p := ⟨w.heap.size + 1, 2, none⟩) hin (.int .i64 ((a0 : Int) + ((doc.size : Int) + 1)))
          have D1 : DocAt ((wr.setCell ⟨w.heap.size + 1, 2, none⟩ (.int .i64 ((a0 : Int) + ((doc.size : Int) + 1)))).alloc (.cells #[.int .i64 (id : Int), .string doc, .int .i64 0, .bool false, .bool ot] 98)) wr.heap.size (0, ⟨id, doc, false, ot⟩) := by
            have := heap_alloc_new (wr.setCell ⟨w.heap.size + 1, 2, none⟩ (.int .i64 ((a0 : Int) + ((doc.size : Int) + 1)))) (.cells #[.int .i64 (id : Int), .string doc, .int .i64 0, .bool false, .bool ot] 98)
            simpa [DocAt] using this
          have p01 := D1.c1
          have p02 := D1.c2
          have p03 := D1.c3
          have K1 := H1.below ((Below.refl _ _).alloc (Nat.le_refl _) (.cells #[.int .i64 (id : Int), .string doc, .int .i64 0, .bool false, .bool ot] 98))
          have t1 := K1.c0
          have s1 := K1.free 0
          have H2 := H1.s0 ((n0 : Int) + 1)
          have B2 := B1.setCell (p := ⟨w.heap.size + 1, 0, none⟩) hin (.int .i64 ((n0 : Int) + 1))
          have D2 : DocAt (((wr.setCell ⟨w.heap.size + 1, 2, none⟩ (.int .i64 ((a0 : Int) + ((doc.size : Int) + 1)))).setCell ⟨w.heap.size + 1, 0, none⟩ (.int .i64 ((n0 : Int) + 1))).alloc (.cells #[.int .i64 (id : Int), .string doc, .int .i64 0, .bool false, .bool ot] 98)) wr.heap.size (0, ⟨id, doc, false, ot⟩) := by
            have := heap_alloc_new ((wr.setCell ⟨w.heap.size + 1, 2, none⟩ (.int .i64 ((a0 : Int) + ((doc.size : Int) + 1)))).setCell ⟨w.heap.size + 1, 0, none⟩ (.int .i64 ((n0 : Int) + 1))) (.cells #[.int .i64 (id : Int), .string doc, .int .i64 0, .bool false, .bool ot] 98)
            simpa [DocAt] using this
          have p11 := D2.c1
          have p12 := D2.c2
          have p13 := D2.c3
          have K2 := H2.below ((Below.refl _ _).alloc (Nat.le_refl _) (.cells #[.int .i64 (id : Int), .string doc, .int .i64 0, .bool false, .bool ot] 98))
          have t2 := K2.c1
          have s2 := K2.free 1
          have H3 := H2.s1 ((z : Int) + (doc.size : Int))
          have B3 := B2.setCell (p := ⟨w.heap.size + 1, 1, none⟩) hin (.int .i64 ((z : Int) + (doc.size : Int)))
          have D3 : DocAt ((((wr.setCell ⟨w.heap.size + 1, 2, none⟩ (.int .i64 ((a0 : Int) + ((doc.size : Int) + 1)))).setCell ⟨w.heap.size + 1, 0, none⟩ (.int .i64 ((n0 : Int) + 1))).setCell ⟨w.heap.size + 1, 1, none⟩ (.int .i64 ((z : Int) + (doc.size : Int)))).alloc (.cells #[.int .i64 (id : Int), .string doc, .int .i64 0, .bool false, .bool ot] 98)) wr.heap.size (0, ⟨id, doc, false, ot⟩) := by
            have := heap_alloc_new (((wr.setCell ⟨w.heap.size + 1, 2, none⟩ (.int .i64 ((a0 : Int) + ((doc.size : Int) + 1)))).setCell ⟨w.heap.size + 1, 0, none⟩ (.int .i64 ((n0 : Int) + 1))).setCell ⟨w.heap.size + 1, 1, none⟩ (.int .i64 ((z : Int) + (doc.size : Int)))) (.cells #[.int .i64 (id : Int), .string doc, .int .i64 0, .bool false, .bool ot] 98)
            simpa [DocAt] using this
          have p21 := D3.c1
          have p22 := D3.c2
          have p23 := D3.c3
          have RF : Hid (StAt _ _ _ _ _ _ _ _ _ _ _) := H3.below ((Below.refl _ _).alloc (Nat.le_refl _) (.cells #[.int .i64 (id : Int), .string doc, .int .i64 0, .bool false, .bool ot] 98))
          have QF : Hid (StAt _ _ _ _ _ _ _ _ _ _ _) := ((((hres.other ⟨w.heap.size + 1, 2, none⟩ (.int .i64 ((a0 : Int) + ((doc.size : Int) + 1))) hrs).other ⟨w.heap.size + 1, 0, none⟩ (.int .i64 ((n0 : Int) + 1)) hrs).other ⟨w.heap.size + 1, 1, none⟩ (.int .i64 ((z : Int) + (doc.size : Int))) hrs)).below ((Below.refl _ _).alloc (Nat.le_refl _) (.cells #[.int .i64 (id : Int), .string doc, .int .i64 0, .bool false, .bool ot] 98))
          have BF : Hid (Below _ _ _) := B3.alloc B3.size (.cells #[.int .i64 (id : Int), .string doc, .int .i64 0, .bool false, .bool ot] 98)
          clear hst hres H0 B0 H1 B1 H2 B2 H3 B3 K0 D1 K1 D2 K2 D3
          go_wp2_with fail
          go_roundw
          case rel =>
            refine ⟨k + 1, by omega, by go_num, ?_, QF.out, BF.out⟩
            rw [HA.out, E0.out, E1.out, E2.out, E3.out]
            simp only [Bool.false_eq_true, if_false, List.length_append, List.length_singleton, HZ.out, HL'.out]
            exact RF.out
          case measure => simp [intOf]; omega
        by_cases c1true : pt = 1 ∧ dd = true
        · obtain ⟨rfl, rfl⟩ := c1true
          have H0 := hst
          have B0 := hb
          have K0 := H0.below ((Below.refl _ _).alloc (Nat.le_refl _) (.cells #[.int .i64 (id : Int), .string doc, .int .i64 1, .bool true, .bool ot] 98))
          have t0 := K0.c3
          have s0 := K0.free 3
          have H1 := H0.s3 ((a1 : Int) + ((doc.size : Int) + 1))
          have B1 := B0.setCell (p := ⟨w.heap.size + 1, 3, none⟩) hin (.int .i64 ((a1 : Int) + ((doc.size : Int) + 1)))
          have D1 : DocAt ((wr.setCell ⟨w.heap.size + 1, 3, none⟩ (.int .i64 ((a1 : Int) + ((doc.size : Int) + 1)))).alloc (.cells #[.int .i64 (id : Int), .string doc, .int .i64 1, .bool true, .bool ot] 98)) wr.heap.size (1, ⟨id, doc, true, ot⟩) := by
            have := heap_alloc_new (wr.setCell ⟨w.heap.size + 1, 3, none⟩ (.int .i64 ((a1 : Int) + ((doc.size : Int) + 1)))) (.cells #[.int .i64 (id : Int), .string doc, .int .i64 1, .bool true, .bool ot] 98)
            simpa [DocAt] using this
          have p01 := D1.c1
          have p02 := D1.c2
          have p03 := D1.c3
          have RF : Hid (StAt _ _ _ _ _ _ _ _ _ _ _) := H1.below ((Below.refl _ _).alloc (Nat.le_refl _) (.cells #[.int .i64 (id : Int), .string doc, .int .i64 1, .bool true, .bool ot] 98))
          have QF : Hid (StAt _ _ _ _ _ _ _ _ _ _ _) := ((hres.other ⟨w.heap.size + 1, 3, none⟩ (.int .i64 ((a1 : Int) + ((doc.size : Int) + 1))) hrs)).below ((Below.refl _ _).alloc (Nat.le_refl _) (.cells #[.int .i64 (id : Int), .string doc, .int .i64 1, .bool true, .bool ot] 98))
          have BF : Hid (Below _ _ _) := B1.alloc B1.size (.cells #[.int .i64 (id : Int), .string doc, .int .i64 1, .bool true, .bool ot] 98)
          clear hst hres H0 B0 H1 B1 K0 D1
          go_wp2_with fail
          go_roundw
          case rel =>
            refine ⟨k + 1, by omega, by go_num, ?_, QF.out, BF.out⟩
            rw [HA.out, E0.out, E1.out, E2.out, E3.out]
            simp only [if_true, HL'.out, HZ'.out]
            exact RF.out
          case measure => simp [intOf]; omega
        by_cases c1false : pt = 1 ∧ dd = false
        · obtain ⟨rfl, rfl⟩ := c1false
          have H0 := hst
          have B0 := hb
          have K0 := H0.below ((Below.refl _ _).alloc (Nat.le_refl _) (.cells #[.int .i64 (id : Int), .string doc, .int .i64 1, .bool false, .bool ot] 98))
          have t0 := K0.c3
          have s0 := K0.free 3
          have H1 := H0.s3 ((a1 : Int) + ((doc.size : Int) + 1))
          have B1 := B0.setCell (p := ⟨w.heap.size + 1, 3, none⟩) hin (.int .i64 ((a1 : Int) + ((doc.size : Int) + 1)))
          have D1 : DocAt ((wr.setCell ⟨w.heap.size + 1, 3, none⟩ (.int .i64 ((a1 : Int) + ((doc.size : Int) + 1)))).alloc (.cells #[.int .i64 (id : Int), .string doc, .int .i64 1, .bool false, .bool ot] 98)) wr.heap.size (1, ⟨id, doc, false, ot⟩) := by
            have := heap_alloc_new (wr.setCell ⟨w.heap.size + 1, 3, none⟩ (.int .i64 ((a1 : Int) + ((doc.size : Int) + 1)))) (.cells #[.int .i64 (id : Int), .string doc, .int .i64 1, .bool false, .bool ot] 98)
            simpa [DocAt] using this
          have p01 := D1.c1
          have p02 := D1.c2
          have p03 := D1.c3
          have K1 := H1.below ((Below.refl _ _).alloc (Nat.le_refl _) (.cells #[.int .i64 (id : Int), .string doc, .int .i64 1, .bool false, .bool ot] 98))
          have t1 := K1.c0
          have s1 := K1.free 0
          have H2 := H1.s0 ((n0 : Int) + 1)
          have B2 := B1.setCell (p := ⟨w.heap.size + 1, 0, none⟩) hin (.int .i64 ((n0 : Int) + 1))
          have D2 : DocAt (((wr.setCell ⟨w.heap.size + 1, 3, none⟩ (.int .i64 ((a1 : Int) + ((doc.size : Int) + 1)))).setCell ⟨w.heap.size + 1, 0, none⟩ (.int .i64 ((n0 : Int) + 1))).alloc (.cells #[.int .i64 (id : Int), .string doc, .int .i64 1, .bool false, .bool ot] 98)) wr.heap.size (1, ⟨id, doc, false, ot⟩) := by
            have := heap_alloc_new ((wr.setCell ⟨w.heap.size + 1, 3, none⟩ (.int .i64 ((a1 : Int) + ((doc.size : Int) + 1)))).setCell ⟨w.heap.size + 1, 0, none⟩ (.int .i64 ((n0 : Int) + 1))) (.cells #[.int .i64 (id : Int), .string doc, .int .i64 1, .bool false, .bool ot] 98)
            simpa [DocAt] using this
          have p11 := D2.c1
          have p12 := D2.c2
          have p13 := D2.c3
          have K2 := H2.below ((Below.refl _ _).alloc (Nat.le_refl _) (.cells #[.int .i64 (id : Int), .string doc, .int .i64 1, .bool false, .bool ot] 98))
          have t2 := K2.c1
          have s2 := K2.free 1
          have H3 := H2.s1 ((z : Int) + (doc.size : Int))
          have B3 := B2.setCell (p := ⟨w.heap.size + 1, 1, none⟩) hin (.int .i64 ((z : Int) + (doc.size : Int)))
          have D3 : DocAt ((((wr.setCell ⟨w.heap.size + 1, 3, none⟩ (.int .i64 ((a1 : Int) + ((doc.size : Int) + 1)))).setCell ⟨w.heap.size + 1, 0, none⟩ (.int .i64 ((n0 : Int) + 1))).setCell ⟨w.heap.size + 1, 1, none⟩ (.int .i64 ((z : Int) + (doc.size : Int)))).alloc (.cells #[.int .i64 (id : Int), .string doc, .int .i64 1, .bool false, .bool ot] 98)) wr.heap.size (1, ⟨id, doc, false, ot⟩) := by
            have := heap_alloc_new (((wr.setCell ⟨w.heap.size + 1, 3, none⟩ (.int .i64 ((a1 : Int) + ((doc.size : Int) + 1)))).setCell ⟨w.heap.size + 1, 0, none⟩ (.int .i64 ((n0 : Int) + 1))).setCell ⟨w.heap.size + 1, 1, none⟩ (.int .i64 ((z : Int) + (doc.size : Int)))) (.cells #[.int .i64 (id : Int), .string doc, .int .i64 1, .bool false, .bool ot] 98)
            simpa [DocAt] using this
          have p21 := D3.c1
          have p22 := D3.c2
          have p23 := D3.c3
          have RF : Hid (StAt _ _ _ _ _ _ _ _ _ _ _) := H3.below ((Below.refl _ _).alloc (Nat.le_refl _) (.cells #[.int .i64 (id : Int), .string doc, .int .i64 1, .bool false, .bool ot] 98))
          have QF : Hid (StAt _ _ _ _ _ _ _ _ _ _ _) := ((((hres.other ⟨w.heap.size + 1, 3, none⟩ (.int .i64 ((a1 : Int) + ((doc.size : Int) + 1))) hrs).other ⟨w.heap.size + 1, 0, none⟩ (.int .i64 ((n0 : Int) + 1)) hrs).other ⟨w.heap.size + 1, 1, none⟩ (.int .i64 ((z : Int) + (doc.size : Int))) hrs)).below ((Below.refl _ _).alloc (Nat.le_refl _) (.cells #[.int .i64 (id : Int), .string doc, .int .i64 1, .bool false, .bool ot] 98))
          have BF : Hid (Below _ _ _) := B3.alloc B3.size (.cells #[.int .i64 (id : Int), .string doc, .int .i64 1, .bool false, .bool ot] 98)
          clear hst hres H0 B0 H1 B1 H2 B2 H3 B3 K0 D1 K1 D2 K2 D3
          go_wp2_with fail
          go_roundw
          case rel =>
            refine ⟨k + 1, by omega, by go_num, ?_, QF.out, BF.out⟩
            rw [HA.out, E0.out, E1.out, E2.out, E3.out]
            simp only [Bool.false_eq_true, if_false, List.length_append, List.length_singleton, HZ.out, HL'.out]
            exact RF.out
          case measure => simp [intOf]; omega
        by_cases c2true : pt = 2 ∧ dd = true
        · obtain ⟨rfl, rfl⟩ := c2true
          have H0 := hst
          have B0 := hb
          have K0 := H0.below ((Below.refl _ _).alloc (Nat.le_refl _) (.cells #[.int .i64 (id : Int), .string doc, .int .i64 2, .bool true, .bool ot] 98))
          have t0 := K0.c4
          have s0 := K0.free 4
          have H1 := H0.s4 ((a2 : Int) + ((doc.size : Int) + 1))
          have B1 := B0.setCell (p := ⟨w.heap.size + 1, 4, none⟩) hin (.int .i64 ((a2 : Int) + ((doc.size : Int) + 1)))
          have D1 : DocAt ((wr.setCell ⟨w.heap.size + 1, 4, none⟩ (.int .i64 ((a2 : Int) + ((doc.size : Int) + 1)))).alloc (.cells #[.int .i64 (id : Int), .string doc, .int .i64 2, .bool true, .bool ot] 98)) wr.heap.size (2, ⟨id, doc, true, ot⟩) := by
            have := heap_alloc_new (wr.setCell ⟨w.heap.size + 1, 4, none⟩ (.int .i64 ((a2 : Int) + ((doc.size : Int) + 1)))) (.cells #[.int .i64 (id : Int), .string doc, .int .i64 2, .bool true, .bool ot] 98)
            simpa [DocAt] using this
          have p01 := D1.c1
          have p02 := D1.c2
          have p03 := D1.c3
          have RF : Hid (StAt _ _ _ _ _ _ _ _ _ _ _) := H1.below ((Below.refl _ _).alloc (Nat.le_refl _) (.cells #[.int .i64 (id : Int), .string doc, .int .i64 2, .bool true, .bool ot] 98))
          have QF : Hid (StAt _ _ _ _ _ _ _ _ _ _ _) := ((hres.other ⟨w.heap.size + 1, 4, none⟩ (.int .i64 ((a2 : Int) + ((doc.size : Int) + 1))) hrs)).below ((Below.refl _ _).alloc (Nat.le_refl _) (.cells #[.int .i64 (id : Int), .string doc, .int .i64 2, .bool true, .bool ot] 98))
          have BF : Hid (Below _ _ _) := B1.alloc B1.size (.cells #[.int .i64 (id : Int), .string doc, .int .i64 2, .bool true, .bool ot] 98)
          clear hst hres H0 B0 H1 B1 K0 D1
          go_wp2_with fail
          go_roundw
          case rel =>
            refine ⟨k + 1, by omega, by go_num, ?_, QF.out, BF.out⟩
            rw [HA.out, E0.out, E1.out, E2.out, E3.out]
            simp only [if_true, HL'.out, HZ'.out]
            exact RF.out
          case measure => simp [intOf]; omega
        by_cases c2false : pt = 2 ∧ dd = false
        · obtain ⟨rfl, rfl⟩ := c2false
          have H0 := hst
          have B0 := hb
          have K0 := H0.below ((Below.refl _ _).alloc (Nat.le_refl _) (.cells #[.int .i64 (id : Int), .string doc, .int .i64 2, .bool false, .bool ot] 98))
          have t0 := K0.c4
          have s0 := K0.free 4
          have H1 := H0.s4 ((a2 : Int) + ((doc.size : Int) + 1))
          have B1 := B0.setCell (p := ⟨w.heap.size + 1, 4, none⟩) hin (.int .i64 ((a2 : Int) + ((doc.size : Int) + 1)))
          have D1 : DocAt ((wr.setCell ⟨w.heap.size + 1, 4, none⟩ (.int .i64 ((a2 : Int) + ((doc.size : Int) + 1)))).alloc (.cells #[.int .i64 (id : Int), .string doc, .int .i64 2, .bool false, .bool ot] 98)) wr.heap.size (2, ⟨id, doc, false, ot⟩) := by
            have := heap_alloc_new (wr.setCell ⟨w.heap.size + 1, 4, none⟩ (.int .i64 ((a2 : Int) + ((doc.size : Int) + 1)))) (.cells #[.int .i64 (id : Int), .string doc, .int .i64 2, .bool false, .bool ot] 98)
            simpa [DocAt] using this
          have p01 := D1.c1
          have p02 := D1.c2
          have p03 := D1.c3
          have K1 := H1.below ((Below.refl _ _).alloc (Nat.le_refl _) (.cells #[.int .i64 (id : Int), .string doc, .int .i64 2, .bool false, .bool ot] 98))
          have t1 := K1.c0
          have s1 := K1.free 0
          have H2 := H1.s0 ((n0 : Int) + 1)
          have B2 := B1.setCell (p := ⟨w.heap.size + 1, 0, none⟩) hin (.int .i64 ((n0 : Int) + 1))
          have D2 : DocAt (((wr.setCell ⟨w.heap.size + 1, 4, none⟩ (.int .i64 ((a2 : Int) + ((doc.size : Int) + 1)))).setCell ⟨w.heap.size + 1, 0, none⟩ (.int .i64 ((n0 : Int) + 1))).alloc (.cells #[.int .i64 (id : Int), .string doc, .int .i64 2, .bool false, .bool ot] 98)) wr.heap.size (2, ⟨id, doc, false, ot⟩) := by
            have := heap_alloc_new ((wr.setCell ⟨w.heap.size + 1, 4, none⟩ (.int .i64 ((a2 : Int) + ((doc.size : Int) + 1)))).setCell ⟨w.heap.size + 1, 0, none⟩ (.int .i64 ((n0 : Int) + 1))) (.cells #[.int .i64 (id : Int), .string doc, .int .i64 2, .bool false, .bool ot] 98)
            simpa [DocAt] using this
          have p11 := D2.c1
          have p12 := D2.c2
          have p13 := D2.c3
          have K2 := H2.below ((Below.refl _ _).alloc (Nat.le_refl _) (.cells #[.int .i64 (id : Int), .string doc, .int .i64 2, .bool false, .bool ot] 98))
          have t2 := K2.c1
          have s2 := K2.free 1
          have H3 := H2.s1 ((z : Int) + (doc.size : Int))
          have B3 := B2.setCell (p := ⟨w.heap.size + 1, 1, none⟩) hin (.int .i64 ((z : Int) + (doc.size : Int)))
          have D3 : DocAt ((((wr.setCell ⟨w.heap.size + 1, 4, none⟩ (.int .i64 ((a2 : Int) + ((doc.size : Int) + 1)))).setCell ⟨w.heap.size + 1, 0, none⟩ (.int .i64 ((n0 : Int) + 1))).setCell ⟨w.heap.size + 1, 1, none⟩ (.int .i64 ((z : Int) + (doc.size : Int)))).alloc (.cells #[.int .i64 (id : Int), .string doc, .int .i64 2, .bool false, .bool ot] 98)) wr.heap.size (2, ⟨id, doc, false, ot⟩) := by
            have := heap_alloc_new (((wr.setCell ⟨w.heap.size + 1, 4, none⟩ (.int .i64 ((a2 : Int) + ((doc.size : Int) + 1)))).setCell ⟨w.heap.size + 1, 0, none⟩ (.int .i64 ((n0 : Int) + 1))).setCell ⟨w.heap.size + 1, 1, none⟩ (.int .i64 ((z : Int) + (doc.size : Int)))) (.cells #[.int .i64 (id : Int), .string doc, .int .i64 2, .bool false, .bool ot] 98)
            simpa [DocAt] using this
          have p21 := D3.c1
          have p22 := D3.c2
          have p23 := D3.c3
          have RF : Hid (StAt _ _ _ _ _ _ _ _ _ _ _) := H3.below ((Below.refl _ _).alloc (Nat.le_refl _) (.cells #[.int .i64 (id : Int), .string doc, .int .i64 2, .bool false, .bool ot] 98))
          have QF : Hid (StAt _ _ _ _ _ _ _ _ _ _ _) := ((((hres.other ⟨w.heap.size + 1, 4, none⟩ (.int .i64 ((a2 : Int) + ((doc.size : Int) + 1))) hrs).other ⟨w.heap.size + 1, 0, none⟩ (.int .i64 ((n0 : Int) + 1)) hrs).other ⟨w.heap.size + 1, 1, none⟩ (.int .i64 ((z : Int) + (doc.size : Int))) hrs)).below ((Below.refl _ _).alloc (Nat.le_refl _) (.cells #[.int .i64 (id : Int), .string doc, .int .i64 2, .bool false, .bool ot] 98))
          have BF : Hid (Below _ _ _) := B3.alloc B3.size (.cells #[.int .i64 (id : Int), .string doc, .int .i64 2, .bool false, .bool ot] 98)
          clear hst hres H0 B0 H1 B1 H2 B2 H3 B3 K0 D1 K1 D2 K2 D3
          go_wp2_with fail
          go_roundw
          case rel =>
            refine ⟨k + 1, by omega, by go_num, ?_, QF.out, BF.out⟩
            rw [HA.out, E0.out, E1.out, E2.out, E3.out]
            simp only [Bool.false_eq_true, if_false, List.length_append, List.length_singleton, HZ.out, HL'.out]
            exact RF.out
          case measure => simp [intOf]; omega
        exfalso
        cases dd
        · have : pt = 0 ∨ pt = 1 ∨ pt = 2 := by omega
          rcases this with rfl | rfl | rfl
          · exact c0false ⟨rfl, rfl⟩
          · exact c1false ⟨rfl, rfl⟩
          · exact c2false ⟨rfl, rfl⟩
        · have : pt = 0 ∨ pt = 1 ∨ pt = 2 := by omega
          rcases this with rfl | rfl | rfl
          · exact c0true ⟨rfl, rfl⟩
          · exact c1true ⟨rfl, rfl⟩
          · exact c2true ⟨rfl, rfl⟩
      · have hke : k = ds.length := by omega
        subst hke
        rw [al_all, List.take_of_length_le (Nat.le_refl _)] at hst
        have v0 := hst.c0
        have v1 := hst.c1
        have v2 := hst.c2
        have v3 := hst.c3
        have v4 := hst.c4
        have v5 := hst.c5
        have v6 := hst.c6
        have v7 := hst.c7
        have v8 := hst.c8
        have hG : (wr.setRow w.heap.size #[.int .i64 ((al ds).length : Int), .int .i64 ((Do.size (al ds) : Nat) : Int), .int .i64 ((W 0 ds : Nat) : Int), .int .i64 ((W 1 ds : Nat) : Int), .int .i64 ((W 2 ds : Nat) : Int), .int .i64 ((Wd ds : Nat) : Int), .int .i64 (lf : Int), .int .i64 1, .int .i64 hn]).heap[w.heap.size]? = some (.cells #[.int .i64 ((al ds).length : Int), .int .i64 ((Do.size (al ds) : Nat) : Int), .int .i64 ((W 0 ds : Nat) : Int), .int .i64 ((W 1 ds : Nat) : Int), .int .i64 ((W 2 ds : Nat) : Int), .int .i64 ((Wd ds : Nat) : Int), .int .i64 (lf : Int), .int .i64 1, .int .i64 hn] 50 (0, 0)) := setRow_heap wr w.heap.size _ _ 50 _ hres
        have G9 : StAt (wr.setRow w.heap.size #[.int .i64 ((al ds).length : Int), .int .i64 ((Do.size (al ds) : Nat) : Int), .int .i64 ((W 0 ds : Nat) : Int), .int .i64 ((W 1 ds : Nat) : Int), .int .i64 ((W 2 ds : Nat) : Int), .int .i64 ((Wd ds : Nat) : Int), .int .i64 (lf : Int), .int .i64 1, .int .i64 hn]) w.heap.size ((al ds).length : Int) ((Do.size (al ds) : Nat) : Int) ((W 0 ds : Nat) : Int) ((W 1 ds : Nat) : Int) ((W 2 ds : Nat) : Int) ((Wd ds : Nat) : Int) (lf : Int) 1 hn := hG
        have x0 := G9.c0
        have x1 := G9.c1
        have x2 := G9.c2
        have x3 := G9.c3
        have x4 := G9.c4
        have x5 := G9.c5
        have x6 := G9.c6
        have x7 := G9.c7
        have x8 := G9.c8
        have BF : Hid (Below w.heap.size w (wr.setRow w.heap.size #[.int .i64 ((al ds).length : Int), .int .i64 ((Do.size (al ds) : Nat) : Int), .int .i64 ((W 0 ds : Nat) : Int), .int .i64 ((W 1 ds : Nat) : Int), .int .i64 ((W 2 ds : Nat) : Int), .int .i64 ((Wd ds : Nat) : Int), .int .i64 (lf : Int), .int .i64 1, .int .i64 hn])) := below_setRow hb
        clear G9
        go_wp2_with (refine wpList_store_row rfl 50 (.tmp 2) (.tmp 85) rfl w.heap.size _ rfl rfl 50 #[.int .i64 0, .int .i64 0, .int .i64 0, .int .i64 0, .int .i64 0, .int .i64 0, .int .i64 0, .int .i64 0, .int .i64 0] ?_ ?_ ?_ ?_ ?_)
        case refine_1 => exact hres
        case refine_2 => exact Try.sizeT147
        case refine_3 => rfl
        case refine_4 => simp [Value.oneCell']
        all_goals
          refine bodyPost_ret (by exact results_cell_row rfl _ _ w.heap.size 50 _ _ _ rfl hG Try.underlying50 rfl Try.sizeT147) rfl ?_
          exact ⟨by first | rfl | (rw [HON.out]), BF.out⟩
  · have d1 : decide ((0 : Int) < (lf : Int)) = false := by rw [decide_eq_false_iff_not]; omega
    have j4 := cell_later hb2 g4
    go_wp2_with fail
    have HON : Hid ((if 0 < lf then (1 : Int) else 0) = 0) := by show _ = _; rw [if_neg hlf]
    obtain ⟨w3, hw3⟩ : ∃ w3, w3 = w2 := ⟨_, rfl⟩
    have hS4 : StAt w3 (w.heap.size + 1) 0 0 0 0 0 0 lf 0 hn := by rw [hw3]; exact hS2
    have hr4 : StAt w3 w.heap.size 0 0 0 0 0 0 0 0 0 := by rw [hw3]; exact hr2
    have hb4 : Below w.heap.size w w3 := by rw [hw3]; exact hb2
    rw [← hw3]
    go_loopw [27] (fun i wr => ∃ k : Nat, k ≤ ds.length ∧ i = .int .i64 k ∧ StAt wr (w.heap.size + 1) ((al (ds.take k)).length : Nat) (Do.size (al (ds.take k)) : Nat) (W 0 (ds.take k) : Nat) (W 1 (ds.take k) : Nat) (W 2 (ds.take k) : Nat) (Wd (ds.take k) : Nat) lf 0 hn ∧ StAt wr w.heap.size 0 0 0 0 0 0 0 0 0 ∧ Below w.heap.size w wr) (fun i _ => ds.length - (intOf i).toNat)
    case atStart => exact ⟨0, Nat.zero_le _, rfl, hS4, hr4, hb4⟩
    case round =>
      obtain ⟨k, hk, rfl, hst, hres, hb⟩ := hrel
      have b0 := W_le 0 ds HSM.out k
      have b1 := W_le 1 ds HSM.out k
      have b2 := W_le 2 ds HSM.out k
      have b3 := Wd_le ds HSM.out k
      have b4 := al_len ds k
      have b5 := al_small ds HSM.out k
      by_cases hlt : k < ds.length
      · obtain ⟨d, hdk⟩ : ∃ d, ds[k]? = some d := ⟨ds[k], List.getElem?_eq_getElem hlt⟩
        obtain ⟨g, rfl, hD⟩ := HC.out k d hdk
        obtain ⟨y0, y1, y2, y3, y4⟩ := hD.later hb
        have hds := HSM.out d (List.mem_of_getElem? hdk)
        have hdp := HPT.out d (List.mem_of_getElem? hdk)
        have e0 := W_succ 0 ds k d hdk
        have e1 := W_succ 1 ds k d hdk
        have e2 := W_succ 2 ds k d hdk
        have e3 := Wd_succ ds k d hdk
        have HA : Hid (al (ds.take (k + 1)) = if d.2.dead then al (ds.take k) else al (ds.take k) ++ [Pa.chg d.2]) := by
          show _ = _
          cases hdd : d.2.dead
          · exact al_hit ds k d hdk hdd
          · exact al_miss ds k d hdk hdd
        clear hdk hD
        generalize W 0 (ds.take k) = a0 at *
        generalize W 1 (ds.take k) = a1 at *
        generalize W 2 (ds.take k) = a2 at *
        generalize Wd (ds.take k) = a3 at *
        have HZ : Hid (Do.size (al (ds.take k) ++ [Pa.chg d.2]) = Do.size (al (ds.take k)) + d.2.doc.size) := Do.sizes_append _ _
        generalize al (ds.take k) = A at *
        generalize hz : Do.size A = z at *
        generalize hA : A.length = n0 at *
        obtain ⟨pt, pg⟩ := d
        obtain ⟨id, doc, dd, ot⟩ := pg
        simp only at *
        have E0 : Hid _ := e0
        have E1 : Hid _ := e1
        have E2 : Hid _ := e2
        have E3 : Hid _ := e3
        have HZ' : Hid (Do.size A = z) := hz
        have HL' : Hid (A.length = n0) := hA
        clear e0 e1 e2 e3 hz hA
        have q0 : a0 + (doc.size + 1) ≤ 1000000 := by omega
        have q1 : a1 + (doc.size + 1) ≤ 1000000 := by omega
        have q2 : a2 + (doc.size + 1) ≤ 1000000 := by omega
        have q3 : a3 + (doc.size + 1) ≤ 1000000 := by omega
        have q4 : n0 + 1 ≤ 1000000 := by omega
        have q5 : z + doc.size ≤ 1000000 := by omega
        have hSl := hst.lt
        have hne : wr.heap.size ≠ w.heap.size + 1 := by omega
        have hin : w.heap.size ≤ w.heap.size + 1 := by omega
        have hrs : w.heap.size ≠ w.heap.size + 1 := by omega
        by_cases c0true : pt = 0 ∧ dd = true
        · obtain ⟨rfl, rfl⟩ := c0true
          have H0 := hst
          have B0 := hb
          have K0 := H0.below ((Below.refl _ _).alloc (Nat.le_refl _) (.cells #[.int .i64 (id : Int), .string doc, .int .i64 0, .bool true, .bool ot] 98))
          have t0 := K0.c2
          have s0 := K0.free 2
          have H1 := H0.s2 ((a0 : Int) + ((doc.size : Int) + 1))
          have B1 := B0.setCell (p := ⟨w.heap.size + 1, 2, none⟩) hin (.int .i64 ((a0 : Int) + ((doc.size : Int) + 1)))
          have D1 : DocAt ((wr.setCell ⟨w.heap.size + 1, 2, none⟩ (.int .i64 ((a0 : Int) + ((doc.size : Int) + 1)))).alloc (.cells #[.int .i64 (id : Int), .string doc, .int .i64 0, .bool true, .bool ot] 98)) wr.heap.size (0, ⟨id, doc, true, ot⟩) := by
            have := heap_alloc_new (wr.setCell ⟨w.heap.size + 1, 2, none⟩ (.int .i64 ((a0 : Int) + ((doc.size : Int) + 1)))) (.cells #[.int .i64 (id : Int), .string doc, .int .i64 0, .bool true, .bool ot] 98)
            simpa [DocAt] using this
          have p01 := D1.c1
          have p02 := D1.c2
          have p03 := D1.c3
          have K1 := H1.below ((Below.refl _ _).alloc (Nat.le_refl _) (.cells #[.int .i64 (id : Int), .string doc, .int .i64 0, .bool true, .bool ot] 98))
          have t1 := K1.c5
          have s1 := K1.free 5
          have H2 := H1.s5 ((a3 : Int) + ((doc.size : Int) + 1))
          have B2 := B1.setCell (p := ⟨w.heap.size + 1, 5, none⟩) hin (.int .i64 ((a3 : Int) + ((doc.size : Int) + 1)))
          have D2 : DocAt (((wr.setCell ⟨w.heap.size + 1, 2, none⟩ (.int .i64 ((a0 : Int) + ((doc.size : Int) + 1)))).setCell ⟨w.heap.size + 1, 5, none⟩ (.int .i64 ((a3 : Int) + ((doc.size : Int) + 1)))).alloc (.cells #[.int .i64 (id : Int), .string doc, .int .i64 0, .bool true, .bool ot] 98)) wr.heap.size (0, ⟨id, doc, true, ot⟩) := by
            have := heap_alloc_new ((wr.setCell ⟨w.heap.size + 1, 2, none⟩ (.int .i64 ((a0 : Int) + ((doc.size : Int) + 1)))).setCell ⟨w.heap.size + 1, 5, none⟩ (.int .i64 ((a3 : Int) + ((doc.size : Int) + 1)))) (.cells #[.int .i64 (id : Int), .string doc, .int .i64 0, .bool true, .bool ot] 98)
            simpa [DocAt] using this
          have p11 := D2.c1
          have p12 := D2.c2
          have p13 := D2.c3
          have RF : Hid (StAt _ _ _ _ _ _ _ _ _ _ _) := H2.below ((Below.refl _ _).alloc (Nat.le_refl _) (.cells #[.int .i64 (id : Int), .string doc, .int .i64 0, .bool true, .bool ot] 98))
          have QF : Hid (StAt _ _ _ _ _ _ _ _ _ _ _) := (((hres.other ⟨w.heap.size + 1, 2, none⟩ (.int .i64 ((a0 : Int) + ((doc.size : Int) + 1))) hrs).other ⟨w.heap.size + 1, 5, none⟩ (.int .i64 ((a3 : Int) + ((doc.size : Int) + 1))) hrs)).below ((Below.refl _ _).alloc (Nat.le_refl _) (.cells #[.int .i64 (id : Int), .string doc, .int .i64 0, .bool true, .bool ot] 98))
          have BF : Hid (Below _ _ _) := B2.alloc B2.size (.cells #[.int .i64 (id : Int), .string doc, .int .i64 0, .bool true, .bool ot] 98)
          clear hst hres H0 B0 H1 B1 H2 B2 K0 D1 K1 D2
          go_wp2_with fail
          go_roundw
          case rel =>
            refine ⟨k + 1, by omega, by go_num, ?_, QF.out, BF.out⟩
            rw [HA.out, E0.out, E1.out, E2.out, E3.out]
            simp only [if_true, HL'.out, HZ'.out]
            exact RF.out
          case measure => simp [intOf]; omega
        by_cases c0false : pt = 0 ∧ dd = false
        · obtain ⟨rfl, rfl⟩ := c0false
          have H0 := hst
          have B0 := hb
          have K0 := H0.below ((Below.refl _ _).alloc (Nat.le_refl _) (.cells #[.int .i64 (id : Int), .string doc, .int .i64 0, .bool false, .bool ot] 98))
          have t0 := K0.c2
          have s0 := K0.free 2
          have H1 := H0.s2 ((a0 : Int) + ((doc.size : Int) + 1))
          have B1 := B0.setCell (p := ⟨w.heap.size + 1, 2, none⟩) hin (.int .i64 ((a0 : Int) + ((doc.size : Int) + 1)))
          have D1 : DocAt ((wr.setCell ⟨w.heap.size + 1, 2, none⟩ (.int .i64 ((a0 : Int) + ((doc.size : Int) + 1)))).alloc (.cells #[.int .i64 (id : Int), .string doc, .int .i64 0, .bool false, .bool ot] 98)) wr.heap.size (0, ⟨id, doc, false, ot⟩) := by
            have := heap_alloc_new (wr.setCell ⟨w.heap.size + 1, 2, none⟩ (.int .i64 ((a0 : Int) + ((doc.size : Int) + 1)))) (.cells #[.int .i64 (id : Int), .string doc, .int .i64 0, .bool false, .bool ot] 98)
            simpa [DocAt] using this
          have p01 := D1.c1
          have p02 := D1.c2
          have p03 := D1.c3
          have K1 := H1.below ((Below.refl _ _).alloc (Nat.le_refl _) (.cells #[.int .i64 (id : Int), .string doc, .int .i64 0, .bool false, .bool ot] 98))
          have t1 := K1.c0
          have s1 := K1.free 0
          have H2 := H1.s0 ((n0 : Int) + 1)
          have B2 := B1.setCell (p := ⟨w.heap.size + 1, 0, none⟩) hin (.int .i64 ((n0 : Int) + 1))
          have D2 : DocAt (((wr.setCell ⟨w.heap.size + 1, 2, none⟩ (.int .i64 ((a0 : Int) + ((doc.size : Int) + 1)))).setCell ⟨w.heap.size + 1, 0, none⟩ (.int .i64 ((n0 : Int) + 1))).alloc (.cells #[.int .i64 (id : Int), .string doc, .int .i64 0, .bool false, .bool ot] 98)) wr.heap.size (0, ⟨id, doc, false, ot⟩) := by
            have := heap_alloc_new ((wr.setCell ⟨w.heap.size + 1, 2, none⟩ (.int .i64 ((a0 : Int) + ((doc.size : Int) + 1)))).setCell ⟨w.heap.size + 1, 0, none⟩ (.int .i64 ((n0 : Int) + 1))) (.cells #[.int .i64 (id : Int), .string doc, .int .i64 0, .bool false, .bool ot] 98)
            simpa [DocAt] using this
          have p11 := D2.c1
          have p12 := D2.c2
          have p13 := D2.c3
          have K2 := H2.below ((Below.refl _ _).alloc (Nat.le_refl _) (.cells #[.int .i64 (id : Int), .string doc, .int .i64 0, .bool false, .bool ot] 98))
          have t2 := K2.c1
          have s2 := K2.free 1
          have H3 := H2.s1 ((z : Int) + (doc.size : Int))
          have B3 := B2.setCell (p := ⟨w.heap.size + 1, 1, none⟩) hin (.int .i64 ((z : Int) + (doc.size : Int)))
          have D3 : DocAt ((((wr.setCell ⟨w.heap.size + 1, 2, none⟩ (.int .i64 ((a0 : Int) + ((doc.size : Int) + 1)))).setCell ⟨w.heap.size + 1, 0, none⟩ (.int .i64 ((n0 : Int) + 1))).setCell ⟨w.heap.size + 1, 1, none⟩ (.int .i64 ((z : Int) + (doc.size : Int)))).alloc (.cells #[.int .i64 (id : Int), .string doc, .int .i64 0, .bool false, .bool ot] 98)) wr.heap.size (0, ⟨id, doc, false, ot⟩) := by
            have := heap_alloc_new (((wr.setCell ⟨w.heap.size + 1, 2, none⟩ (.int .i64 ((a0 : Int) + ((doc.size : Int) + 1)))).setCell ⟨w.heap.size + 1, 0, none⟩ (.int .i64 ((n0 : Int) + 1))).setCell ⟨w.heap.size + 1, 1, none⟩ (.int .i64 ((z : Int) + (doc.size : Int)))) (.cells #[.int .i64 (id : Int), .string doc, .int .i64 0, .bool false, .bool ot] 98)
            simpa [DocAt] using this
          have p21 := D3.c1
          have p22 := D3.c2
          have p23 := D3.c3
          have RF : Hid (StAt _ _ _ _ _ _ _ _ _ _ _) := H3.below ((Below.refl _ _).alloc (Nat.le_refl _) (.cells #[.int .i64 (id : Int), .string doc, .int .i64 0, .bool false, .bool ot] 98))
          have QF : Hid (StAt _ _ _ _ _ _ _ _ _ _ _) := ((((hres.other ⟨w.heap.size + 1, 2, none⟩ (.int .i64 ((a0 : Int) + ((doc.size : Int) + 1))) hrs).other ⟨w.heap.size + 1, 0, none⟩ (.int .i64 ((n0 : Int) + 1)) hrs).other ⟨w.heap.size + 1, 1, none⟩ (.int .i64 ((z : Int) + (doc.size : Int))) hrs)).below ((Below.refl _ _).alloc (Nat.le_refl _) (.cells #[.int .i64 (id : Int), .string doc, .int .i64 0, .bool false, .bool ot] 98))
          have BF : Hid (Below _ _ _) := B3.alloc B3.size (.cells #[.int .i64 (id : Int), .string doc, .int .i64 0, .bool false, .bool ot] 98)
          clear hst hres H0 B0 H1 B1 H2 B2 H3 B3 K0 D1 K1 D2 K2 D3
          go_wp2_with fail
          go_roundw
          case rel =>
            refine ⟨k + 1, by omega, by go_num, ?_, QF.out, BF.out⟩
            rw [HA.out, E0.out, E1.out, E2.out, E3.out]
            simp only [Bool.false_eq_true, if_false, List.length_append, List.length_singleton, HZ.out, HL'.out]
            exact RF.out
          case measure => simp [intOf]; omega
        by_cases c1true : pt = 1 ∧ dd = true
        · obtain ⟨rfl, rfl⟩ := c1true
          have H0 := hst
          have B0 := hb
          have K0 := H0.below ((Below.refl _ _).alloc (Nat.le_refl _) (.cells #[.int .i64 (id : Int), .string doc, .int .i64 1, .bool true, .bool ot] 98))
          have t0 := K0.c3
          have s0 := K0.free 3
          have H1 := H0.s3 ((a1 : Int) + ((doc.size : Int) + 1))
          have B1 := B0.setCell (p := ⟨w.heap.size + 1, 3, none⟩) hin (.int .i64 ((a1 : Int) + ((doc.size : Int) + 1)))
          have D1 : DocAt ((wr.setCell ⟨w.heap.size + 1, 3, none⟩ (.int .i64 ((a1 : Int) + ((doc.size : Int) + 1)))).alloc (.cells #[.int .i64 (id : Int), .string doc, .int .i64 1, .bool true, .bool ot] 98)) wr.heap.size (1, ⟨id, doc, true, ot⟩) := by
            have := heap_alloc_new (wr.setCell ⟨w.heap.size + 1, 3, none⟩ (.int .i64 ((a1 : Int) + ((doc.size : Int) + 1)))) (.cells #[.int .i64 (id : Int), .string doc, .int .i64 1, .bool true, .bool ot] 98)
            simpa [DocAt] using this
          have p01 := D1.c1
          have p02 := D1.c2
          have p03 := D1.c3
          have RF : Hid (StAt _ _ _ _ _ _ _ _ _ _ _) := H1.below ((Below.refl _ _).alloc (Nat.le_refl _) (.cells #[.int .i64 (id : Int), .string doc, .int .i64 1, .bool true, .bool ot] 98))
          have QF : Hid (StAt _ _ _ _ _ _ _ _ _ _ _) := ((hres.other ⟨w.heap.size + 1, 3, none⟩ (.int .i64 ((a1 : Int) + ((doc.size : Int) + 1))) hrs)).below ((Below.refl _ _).alloc (Nat.le_refl _) (.cells #[.int .i64 (id : Int), .string doc, .int .i64 1, .bool true, .bool ot] 98))
          have BF : Hid (Below _ _ _) := B1.alloc B1.size (.cells #[.int .i64 (id : Int), .string doc, .int .i64 1, .bool true, .bool ot] 98)
          clear hst hres H0 B0 H1 B1 K0 D1
          go_wp2_with fail
          go_roundw
          case rel =>
            refine ⟨k + 1, by omega, by go_num, ?_, QF.out, BF.out⟩
            rw [HA.out, E0.out, E1.out, E2.out, E3.out]
            simp only [if_true, HL'.out, HZ'.out]
            exact RF.out
          case measure => simp [intOf]; omega
        by_cases c1false : pt = 1 ∧ dd = false
        · obtain ⟨rfl, rfl⟩ := c1false
          have H0 := hst
          have B0 := hb
          have K0 := H0.below ((Below.refl _ _).alloc (Nat.le_refl _) (.cells #[.int .i64 (id : Int), .string doc, .int .i64 1, .bool false, .bool ot] 98))
          have t0 := K0.c3
          have s0 := K0.free 3
          have H1 := H0.s3 ((a1 : Int) + ((doc.size : Int) + 1))
          have B1 := B0.setCell (p := ⟨w.heap.size + 1, 3, none⟩) hin (.int .i64 ((a1 : Int) + ((doc.size : Int) + 1)))
          have D1 : DocAt ((wr.setCell ⟨w.heap.size + 1, 3, none⟩ (.int .i64 ((a1 : Int) + ((doc.size : Int) + 1)))).alloc (.cells #[.int .i64 (id : Int), .string doc, .int .i64 1, .bool false, .bool ot] 98)) wr.heap.size (1, ⟨id, doc, false, ot⟩) := by
            have := heap_alloc_new (wr.setCell ⟨w.heap.size + 1, 3, none⟩ (.int .i64 ((a1 : Int) + ((doc.size : Int) + 1)))) (.cells #[.int .i64 (id : Int), .string doc, .int .i64 1, .bool false, .bool ot] 98)
            simpa [DocAt] using this
          have p01 := D1.c1
          have p02 := D1.c2
          have p03 := D1.c3
          have K1 := H1.below ((Below.refl _ _).alloc (Nat.le_refl _) (.cells #[.int .i64 (id : Int), .string doc, .int .i64 1, .bool false, .bool ot] 98))
          have t1 := K1.c0
          have s1 := K1.free 0
          have H2 := H1.s0 ((n0 : Int) + 1)
          have B2 := B1.setCell (p := ⟨w.heap.size + 1, 0, none⟩) hin (.int .i64 ((n0 : Int) + 1))
          have D2 : DocAt (((wr.setCell ⟨w.heap.size + 1, 3, none⟩ (.int .i64 ((a1 : Int) + ((doc.size : Int) + 1)))).setCell ⟨w.heap.size + 1, 0, none⟩ (.int .i64 ((n0 : Int) + 1))).alloc (.cells #[.int .i64 (id : Int), .string doc, .int .i64 1, .bool false, .bool ot] 98)) wr.heap.size (1, ⟨id, doc, false, ot⟩) := by
            have := heap_alloc_new ((wr.setCell ⟨w.heap.size + 1, 3, none⟩ (.int .i64 ((a1 : Int) + ((doc.size : Int) + 1)))).setCell ⟨w.heap.size + 1, 0, none⟩ (.int .i64 ((n0 : Int) + 1))) (.cells #[.int .i64 (id : Int), .string doc, .int .i64 1, .bool false, .bool ot] 98)
            simpa [DocAt] using this
          have p11 := D2.c1
          have p12 := D2.c2
          have p13 := D2.c3
          have K2 := H2.below ((Below.refl _ _).alloc (Nat.le_refl _) (.cells #[.int .i64 (id : Int), .string doc, .int .i64 1, .bool false, .bool ot] 98))
          have t2 := K2.c1
          have s2 := K2.free 1
          have H3 := H2.s1 ((z : Int) + (doc.size : Int))
          have B3 := B2.setCell (p := ⟨w.heap.size + 1, 1, none⟩) hin (.int .i64 ((z : Int) + (doc.size : Int)))
          have D3 : DocAt ((((wr.setCell ⟨w.heap.size + 1, 3, none⟩ (.int .i64 ((a1 : Int) + ((doc.size : Int) + 1)))).setCell ⟨w.heap.size + 1, 0, none⟩ (.int .i64 ((n0 : Int) + 1))).setCell ⟨w.heap.size + 1, 1, none⟩ (.int .i64 ((z : Int) + (doc.size : Int)))).alloc (.cells #[.int .i64 (id : Int), .string doc, .int .i64 1, .bool false, .bool ot] 98)) wr.heap.size (1, ⟨id, doc, false, ot⟩) := by
            have := heap_alloc_new (((wr.setCell ⟨w.heap.size + 1, 3, none⟩ (.int .i64 ((a1 : Int) + ((doc.size : Int) + 1)))).setCell ⟨w.heap.size + 1, 0, none⟩ (.int .i64 ((n0 : Int) + 1))).setCell ⟨w.heap.size + 1, 1, none⟩ (.int .i64 ((z : Int) + (doc.size : Int)))) (.cells #[.int .i64 (id : Int), .string doc, .int .i64 1, .bool false, .bool ot] 98)
            simpa [DocAt] using this
          have p21 := D3.c1
          have p22 := D3.c2
          have p23 := D3.c3
          have RF : Hid (StAt _ _ _ _ _ _ _ _ _ _ _) := H3.below ((Below.refl _ _).alloc (Nat.le_refl _) (.cells #[.int .i64 (id : Int), .string doc, .int .i64 1, .bool false, .bool ot] 98))
          have QF : Hid (StAt _ _ _ _ _ _ _ _ _ _ _) := ((((hres.other ⟨w.heap.size + 1, 3, none⟩ (.int .i64 ((a1 : Int) + ((doc.size : Int) + 1))) hrs).other ⟨w.heap.size + 1, 0, none⟩ (.int .i64 ((n0 : Int) + 1)) hrs).other ⟨w.heap.size + 1, 1, none⟩ (.int .i64 ((z : Int) + (doc.size : Int))) hrs)).below ((Below.refl _ _).alloc (Nat.le_refl _) (.cells #[.int .i64 (id : Int), .string doc, .int .i64 1, .bool false, .bool ot] 98))
          have BF : Hid (Below _ _ _) := B3.alloc B3.size (.cells #[.int .i64 (id : Int), .string doc, .int .i64 1, .bool false, .bool ot] 98)
          clear hst hres H0 B0 H1 B1 H2 B2 H3 B3 K0 D1 K1 D2 K2 D3
          go_wp2_with fail
          go_roundw
          case rel =>
            refine ⟨k + 1, by omega, by go_num, ?_, QF.out, BF.out⟩
            rw [HA.out, E0.out, E1.out, E2.out, E3.out]
            simp only [Bool.false_eq_true, if_false, List.length_append, List.length_singleton, HZ.out, HL'.out]
            exact RF.out
          case measure => simp [intOf]; omega
        by_cases c2true : pt = 2 ∧ dd = true
        · obtain ⟨rfl, rfl⟩ := c2true
          have H0 := hst
          have B0 := hb
          have K0 := H0.below ((Below.refl _ _).alloc (Nat.le_refl _) (.cells #[.int .i64 (id : Int), .string doc, .int .i64 2, .bool true, .bool ot] 98))
          have t0 := K0.c4
          have s0 := K0.free 4
          have H1 := H0.s4 ((a2 : Int) + ((doc.size : Int) + 1))
          have B1 := B0.setCell (p := ⟨w.heap.size + 1, 4, none⟩) hin (.int .i64 ((a2 : Int) + ((doc.size : Int) + 1)))
          have D1 : DocAt ((wr.setCell ⟨w.heap.size + 1, 4, none⟩ (.int .i64 ((a2 : Int) + ((doc.size : Int) + 1)))).alloc (.cells #[.int .i64 (id : Int), .string doc, .int .i64 2, .bool true, .bool ot] 98)) wr.heap.size (2, ⟨id, doc, true, ot⟩) := by
            have := heap_alloc_new (wr.setCell ⟨w.heap.size + 1, 4, none⟩ (.int .i64 ((a2 : Int) + ((doc.size : Int) + 1)))) (.cells #[.int .i64 (id : Int), .string doc, .int .i64 2, .bool true, .bool ot] 98)
            simpa [DocAt] using this
          have p01 := D1.c1
          have p02 := D1.c2
          have p03 := D1.c3
          have RF : Hid (StAt _ _ _ _ _ _ _ _ _ _ _) := H1.below ((Below.refl _ _).alloc (Nat.le_refl _) (.cells #[.int .i64 (id : Int), .string doc, .int .i64 2, .bool true, .bool ot] 98))
          have QF : Hid (StAt _ _ _ _ _ _ _ _ _ _ _) := ((hres.other ⟨w.heap.size + 1, 4, none⟩ (.int .i64 ((a2 : Int) + ((doc.size : Int) + 1))) hrs)).below ((Below.refl _ _).alloc (Nat.le_refl _) (.cells #[.int .i64 (id : Int), .string doc, .int .i64 2, .bool true, .bool ot] 98))
          have BF : Hid (Below _ _ _) := B1.alloc B1.size (.cells #[.int .i64 (id : Int), .string doc, .int .i64 2, .bool true, .bool ot] 98)
          clear hst hres H0 B0 H1 B1 K0 D1
          go_wp2_with fail
          go_roundw
          case rel =>
            refine ⟨k + 1, by omega, by go_num, ?_, QF.out, BF.out⟩
            rw [HA.out, E0.out, E1.out, E2.out, E3.out]
            simp only [if_true, HL'.out, HZ'.out]
            exact RF.out
          case measure => simp [intOf]; omega
        by_cases c2false : pt = 2 ∧ dd = false
        · obtain ⟨rfl, rfl⟩ := c2false
          have H0 := hst
          have B0 := hb
          have K0 := H0.below ((Below.refl _ _).alloc (Nat.le_refl _) (.cells #[.int .i64 (id : Int), .string doc, .int .i64 2, .bool false, .bool ot] 98))
          have t0 := K0.c4
          have s0 := K0.free 4
          have H1 := H0.s4 ((a2 : Int) + ((doc.size : Int) + 1))
          have B1 := B0.setCell (p := ⟨w.heap.size + 1, 4, none⟩) hin (.int .i64 ((a2 : Int) + ((doc.size : Int) + 1)))
          have D1 : DocAt ((wr.setCell ⟨w.heap.size + 1, 4, none⟩ (.int .i64 ((a2 : Int) + ((doc.size : Int) + 1)))).alloc (.cells #[.int .i64 (id : Int), .string doc, .int .i64 2, .bool false, .bool ot] 98)) wr.heap.size (2, ⟨id, doc, false, ot⟩) := by
            have := heap_alloc_new (wr.setCell ⟨w.heap.size + 1, 4, none⟩ (.int .i64 ((a2 : Int) + ((doc.size : Int) + 1)))) (.cells #[.int .i64 (id : Int), .string doc, .int .i64 2, .bool false, .bool ot] 98)
            simpa [DocAt] using this
          have p01 := D1.c1
          have p02 := D1.c2
          have p03 := D1.c3
          have K1 := H1.below ((Below.refl _ _).alloc (Nat.le_refl _) (.cells #[.int .i64 (id : Int), .string doc, .int .i64 2, .bool false, .bool ot] 98))
          have t1 := K1.c0
          have s1 := K1.free 0
          have H2 := H1.s0 ((n0 : Int) + 1)
          have B2 := B1.setCell (p := ⟨w.heap.size + 1, 0, none⟩) hin (.int .i64 ((n0 : Int) + 1))
          have D2 : DocAt (((wr.setCell ⟨w.heap.size + 1, 4, none⟩ (.int .i64 ((a2 : Int) + ((doc.size : Int) + 1)))).setCell ⟨w.heap.size + 1, 0, none⟩ (.int .i64 ((n0 : Int) + 1))).alloc (.cells #[.int .i64 (id : Int), .string doc, .int .i64 2, .bool false, .bool ot] 98)) wr.heap.size (2, ⟨id, doc, false, ot⟩) := by
            have := heap_alloc_new ((wr.setCell ⟨w.heap.size + 1, 4, none⟩ (.int .i64 ((a2 : Int) + ((doc.size : Int) + 1)))).setCell ⟨w.heap.size + 1, 0, none⟩ (.int .i64 ((n0 : Int) + 1))) (.cells #[.int .i64 (id : Int), .string doc, .int .i64 2, .bool false, .bool ot] 98)
            simpa [DocAt] using this
          have p11 := D2.c1
          have p12 := D2.c2
          have p13 := D2.c3
          have K2 := H2.below ((Below.refl _ _).alloc (Nat.le_refl _) (.cells #[.int .i64 (id : Int), .string doc, .int .i64 2, .bool false, .bool ot] 98))
          have t2 := K2.c1
          have s2 := K2.free 1
          have H3 := H2.s1 ((z : Int) + (doc.size : Int))
          have B3 := B2.setCell (p := ⟨w.heap.size + 1, 1, none⟩) hin (.int .i64 ((z : Int) + (doc.size : Int)))
          have D3 : DocAt ((((wr.setCell ⟨w.heap.size + 1, 4, none⟩ (.int .i64 ((a2 : Int) + ((doc.size : Int) + 1)))).setCell ⟨w.heap.size + 1, 0, none⟩ (.int .i64 ((n0 : Int) + 1))).setCell ⟨w.heap.size + 1, 1, none⟩ (.int .i64 ((z : Int) + (doc.size : Int)))).alloc (.cells #[.int .i64 (id : Int), .string doc, .int .i64 2, .bool false, .bool ot] 98)) wr.heap.size (2, ⟨id, doc, false, ot⟩) := by
            have := heap_alloc_new (((wr.setCell ⟨w.heap.size + 1, 4, none⟩ (.int .i64 ((a2 : Int) + ((doc.size : Int) + 1)))).setCell ⟨w.heap.size + 1, 0, none⟩ (.int .i64 ((n0 : Int) + 1))).setCell ⟨w.heap.size + 1, 1, none⟩ (.int .i64 ((z : Int) + (doc.size : Int)))) (.cells #[.int .i64 (id : Int), .string doc, .int .i64 2, .bool false, .bool ot] 98)
            simpa [DocAt] using this
          have p21 := D3.c1
          have p22 := D3.c2
          have p23 := D3.c3
          have RF : Hid (StAt _ _ _ _ _ _ _ _ _ _ _) := H3.below ((Below.refl _ _).alloc (Nat.le_refl _) (.cells #[.int .i64 (id : Int), .string doc, .int .i64 2, .bool false, .bool ot] 98))
          have QF : Hid (StAt _ _ _ _ _ _ _ _ _ _ _) := ((((hres.other ⟨w.heap.size + 1, 4, none⟩ (.int .i64 ((a2 : Int) + ((doc.size : Int) + 1))) hrs).other ⟨w.heap.size + 1, 0, none⟩ (.int .i64 ((n0 : Int) + 1)) hrs).other ⟨w.heap.size + 1, 1, none⟩ (.int .i64 ((z : Int) + (doc.size : Int))) hrs)).below ((Below.refl _ _).alloc (Nat.le_refl _) (.cells #[.int .i64 (id : Int), .string doc, .int .i64 2, .bool false, .bool ot] 98))
          have BF : Hid (Below _ _ _) := B3.alloc B3.size (.cells #[.int .i64 (id : Int), .string doc, .int .i64 2, .bool false, .bool ot] 98)
          clear hst hres H0 B0 H1 B1 H2 B2 H3 B3 K0 D1 K1 D2 K2 D3
          go_wp2_with fail
          go_roundw
          case rel =>
            refine ⟨k + 1, by omega, by go_num, ?_, QF.out, BF.out⟩
            rw [HA.out, E0.out, E1.out, E2.out, E3.out]
            simp only [Bool.false_eq_true, if_false, List.length_append, List.length_singleton, HZ.out, HL'.out]
            exact RF.out
          case measure => simp [intOf]; omega
        exfalso
        cases dd
        · have : pt = 0 ∨ pt = 1 ∨ pt = 2 := by omega
          rcases this with rfl | rfl | rfl
          · exact c0false ⟨rfl, rfl⟩
          · exact c1false ⟨rfl, rfl⟩
          · exact c2false ⟨rfl, rfl⟩
        · have : pt = 0 ∨ pt = 1 ∨ pt = 2 := by omega
          rcases this with rfl | rfl | rfl
          · exact c0true ⟨rfl, rfl⟩
          · exact c1true ⟨rfl, rfl⟩
          · exact c2true ⟨rfl, rfl⟩
      · have hke : k = ds.length := by omega
        subst hke
        rw [al_all, List.take_of_length_le (Nat.le_refl _)] at hst
        have v0 := hst.c0
        have v1 := hst.c1
        have v2 := hst.c2
        have v3 := hst.c3
        have v4 := hst.c4
        have v5 := hst.c5
        have v6 := hst.c6
        have v7 := hst.c7
        have v8 := hst.c8
        have hG : (wr.setRow w.heap.size #[.int .i64 ((al ds).length : Int), .int .i64 ((Do.size (al ds) : Nat) : Int), .int .i64 ((W 0 ds : Nat) : Int), .int .i64 ((W 1 ds : Nat) : Int), .int .i64 ((W 2 ds : Nat) : Int), .int .i64 ((Wd ds : Nat) : Int), .int .i64 (lf : Int), .int .i64 0, .int .i64 hn]).heap[w.heap.size]? = some (.cells #[.int .i64 ((al ds).length : Int), .int .i64 ((Do.size (al ds) : Nat) : Int), .int .i64 ((W 0 ds : Nat) : Int), .int .i64 ((W 1 ds : Nat) : Int), .int .i64 ((W 2 ds : Nat) : Int), .int .i64 ((Wd ds : Nat) : Int), .int .i64 (lf : Int), .int .i64 0, .int .i64 hn] 50 (0, 0)) := setRow_heap wr w.heap.size _ _ 50 _ hres
        have G9 : StAt (wr.setRow w.heap.size #[.int .i64 ((al ds).length : Int), .int .i64 ((Do.size (al ds) : Nat) : Int), .int .i64 ((W 0 ds : Nat) : Int), .int .i64 ((W 1 ds : Nat) : Int), .int .i64 ((W 2 ds : Nat) : Int), .int .i64 ((Wd ds : Nat) : Int), .int .i64 (lf : Int), .int .i64 0, .int .i64 hn]) w.heap.size ((al ds).length : Int) ((Do.size (al ds) : Nat) : Int) ((W 0 ds : Nat) : Int) ((W 1 ds : Nat) : Int) ((W 2 ds : Nat) : Int) ((Wd ds : Nat) : Int) (lf : Int) 0 hn := hG
        have x0 := G9.c0
        have x1 := G9.c1
        have x2 := G9.c2
        have x3 := G9.c3
        have x4 := G9.c4
        have x5 := G9.c5
        have x6 := G9.c6
        have x7 := G9.c7
        have x8 := G9.c8
        have BF : Hid (Below w.heap.size w (wr.setRow w.heap.size #[.int .i64 ((al ds).length : Int), .int .i64 ((Do.size (al ds) : Nat) : Int), .int .i64 ((W 0 ds : Nat) : Int), .int .i64 ((W 1 ds : Nat) : Int), .int .i64 ((W 2 ds : Nat) : Int), .int .i64 ((Wd ds : Nat) : Int), .int .i64 (lf : Int), .int .i64 0, .int .i64 hn])) := below_setRow hb
        clear G9
        go_wp2_with (refine wpList_store_row rfl 50 (.tmp 2) (.tmp 85) rfl w.heap.size _ rfl rfl 50 #[.int .i64 0, .int .i64 0, .int .i64 0, .int .i64 0, .int .i64 0, .int .i64 0, .int .i64 0, .int .i64 0, .int .i64 0] ?_ ?_ ?_ ?_ ?_)
        case refine_1 => exact hres
        case refine_2 => exact Try.sizeT147
        case refine_3 => rfl
        case refine_4 => simp [Value.oneCell']
        all_goals
          refine bodyPost_ret (by exact results_cell_row rfl _ _ w.heap.size 50 _ _ _ rfl hG Try.underlying50 rfl Try.sizeT147) rfl ?_
          exact ⟨by first | rfl | (rw [HON.out]), BF.out⟩


end Go.Proofs.Ythkndfkkgncjfab

namespace Go.Proofs.Ythkndfkkgncjfab
open Go.RowKit
set_option maxRecDepth 100000

theorem bits_half (n : Nat) (h : 0 < n) : Pa.bits n = Pa.bits (n / 2) + 1 := by
  unfold Pa.bits
  rw [if_neg (by omega)]
  by_cases h1 : n / 2 = 0
  · rw [if_pos h1]
    have : n = 1 := by omega
    subst this; rfl
  · rw [if_neg h1]
    rw [Nat.log2_def, if_pos (by omega)]
theorem bits_le (n : Nat) (h : n ≤ 5000) : Pa.bits n ≤ 13 := by
  unfold Pa.bits
  by_cases h0 : n = 0
  · rw [if_pos h0]; omega
  · rw [if_neg h0]
    have : Nat.log2 n < 13 := (Nat.log2_lt h0).2 (by omega)
    omega

set_option maxHeartbeats 400000 in
theorem bits_any (n : Nat) (w : World) (hn : n ≤ 5000) :
    Calls Try.prog 97 #[.int .i64 (n : Int)] w fun e w' => e = .returned (.int .i64 (Pa.bits n : Nat)) ∧ Below w.heap.size w w' := by
  have HL := bits_le n hn
  have HB : Hid (∀ m, 0 < m → Pa.bits m = Pa.bits (m / 2) + 1) := bits_half
  go_enter Try.func97, Try.ntmps97
  go_wp2_with fail
  go_loopw [0, 3] (fun u v wr => ∃ m c : Nat, m ≤ n ∧ c + Pa.bits m = Pa.bits n ∧ u = .int .i64 m ∧ v = .int .i64 c ∧ Below w.heap.size w wr) (fun u _ _ => (intOf u).toNat)
  case atStart => exact ⟨n, 0, Nat.le_refl _, Nat.zero_add _, rfl, rfl, Below.refl _ _⟩
  case round =>
    obtain ⟨m, c, hm, hc, rfl, rfl, hb⟩ := hrel
    by_cases h0 : 0 < m
    · have d1 : decide ((0 : Int) < (m : Int)) = true := by rw [decide_eq_true_eq]; omega
      have hh := HB.out m h0
      have e2 : (m : Int).tdiv 2 = ((m / 2 : Nat) : Int) := rfl
      have hcl : c ≤ 100 := by omega
      have hlt : m / 2 < m := by omega
      obtain ⟨q, hq⟩ : ∃ q, m / 2 = q := ⟨_, rfl⟩
      rw [hq] at hh hlt e2
      clear hq
      go_wp2_with fail
      go_roundw
      case rel => exact ⟨q, c + 1, by omega, by omega, by first | rfl | go_num, by go_num, hb⟩
      case measure => simp [intOf]; omega
    · obtain rfl : m = 0 := by omega
      have hz : c = Pa.bits n := by rw [← hc]; rfl
      subst hz
      go_wp2_with fail
      go_ret
      exact ⟨rfl, hb⟩

set_option maxHeartbeats 400000 in
theorem upwards_any (k b : Nat) (w : World) (hk : k ≤ 1000000) (hb : b ≤ 80) :
    Calls Try.prog 98 #[.int .i64 (k : Int), .int .i64 ((b / 2 : Nat) : Int)] w fun e w' => e = .returned (.int .i64 (Pa.speedOf b k : Nat)) ∧ Below w.heap.size w w' := by
  unfold Pa.speedOf Pa.half
  by_cases h : b / 2 < 1
  · have e1 : max 1 (b / 2) = 1 := by omega
    rw [e1]
    have e2 : b / 2 = 0 := by omega
    rw [e2]
    go_enter Try.func98, Try.ntmps98
    go_wp2_with fail
    go_ret
    exact ⟨ret_int (by simp), Below.refl _ _⟩
  · have e1 : max 1 (b / 2) = b / 2 := by omega
    rw [e1]
    have hh : b / 2 ≤ 40 := by omega
    generalize b / 2 = h2 at *
    have e3 : ((k : Int) + (h2 : Int) - 1).tdiv (h2 : Int) = (((k + h2 - 1) / h2 : Nat) : Int) := by
      rw [show (k : Int) + (h2 : Int) - 1 = ((k + h2 - 1 : Nat) : Int) by omega]; rfl
    have hq : (k + h2 - 1) / h2 ≤ 2000000 := Nat.le_trans (Nat.div_le_self _ _) (by omega)
    have hnz : ¬ (h2 : Int) = 0 := by omega
    generalize (k + h2 - 1) / h2 = q at *
    have d1 : decide ((h2 : Int) < 1) = false := by rw [decide_eq_false_iff_not]; omega
    go_enter Try.func98, Try.ntmps98
    go_wp2_with fail
    go_ret
    exact ⟨ret_int rfl, Below.refl _ _⟩

set_option maxHeartbeats 1000000 in
theorem due_any (x : Nat) (b : Box) (B : Nat) (ds : List Dc) (lf : Nat) (hn : Int) (bf : Nat) (w : World) (hl : ds.length ≤ 6000) (hsm : ∀ d ∈ ds, d.2.doc.size ≤ 40) (hpt : ∀ d ∈ ds, d.1 ≤ 2) (hb : BoxAt w x b) (h : OwnD w B b.docs ds) (h1 : b.left = .int .i64 (lf : Int)) (h2 : b.hand = .int .i64 hn) (h3 : b.buf = .int .i64 (bf : Int)) :
    Calls Try.prog 73 #[.pointer (some ⟨x, 3, none⟩)] w fun e w' => e = .returned (.bool (decide (bf ≤ W 2 ds ∨ W 0 ds < 2 * Wd ds))) ∧ Below w.heap.size w w' := by
  have HS := sStats_any x b B ds lf hn w hl hsm hpt hb h h1 h2
  have b2 := W_le 2 ds hsm ds.length
  have b0 := W_le 0 ds hsm ds.length
  have bd := Wd_le ds hsm ds.length
  rw [List.take_of_length_le (Nat.le_refl _)] at b2 b0 bd
  have HB : Hid (BoxAt w x b) := hb
  have H3 : Hid (b.buf = .int .i64 (bf : Int)) := h3
  clear hsm hpt hb h h1 h2 h3
  generalize W 2 ds = a2 at *
  generalize W 0 ds = a0 at *
  generalize Wd ds = a3 at *
  obtain ⟨on, hon⟩ : ∃ on : Int, (if 0 < lf then (1 : Int) else 0) = on := ⟨_, rfl⟩
  rw [hon] at HS
  clear hon
  generalize ((al ds).length : Int) = v0 at *
  generalize ((Do.size (al ds) : Nat) : Int) = v1 at *
  generalize ((W 1 ds : Nat) : Int) = v3 at *
  have key : ∀ (r : Bool), decide ((bf : Int) ≤ (a2 : Int)) = r → (r = false → ∀ r2 : Bool, decide ((a0 : Int) < 2 * (a3 : Int)) = r2 → decide (bf ≤ a2 ∨ a0 < 2 * a3) = r2) ∧ (r = true → decide (bf ≤ a2 ∨ a0 < 2 * a3) = true) := by
    intro r hr
    refine ⟨fun h r2 h2 => ?_, fun h => ?_⟩
    · subst h
      rw [decide_eq_false_iff_not] at hr
      rw [← h2]
      exact decide_eq_decide.2 ⟨fun h => by omega, fun h => by omega⟩
    · subst h
      rw [decide_eq_true_eq] at hr
      rw [decide_eq_true_eq]; omega
  have KEY : Hid _ := key
  clear key
  go_enter Try.func73, Try.ntmps73
  go_wp2_with fail
  refine HS.mono ?_
  rintro e w1 ⟨rfl, hb1⟩
  have g3 := (HB.out.below (hb1.trans (((Below.refl _ _).alloc (Nat.le_refl _) (.cells #[.int .i64 v0, .int .i64 v1, .int .i64 (a0 : Int), .int .i64 v3, .int .i64 (a2 : Int), .int .i64 (a3 : Int), .int .i64 (lf : Int), .int .i64 on, .int .i64 hn] 50)).mono hb1.size))).g3
  rw [H3.out] at g3
  by_cases c1 : (bf : Int) ≤ (a2 : Int)
  · have d1 : decide ((bf : Int) ≤ (a2 : Int)) = true := by rw [decide_eq_true_eq]; exact c1
    have d1' : decide (bf ≤ a2) = true := by rw [decide_eq_true_eq]; omega
    go_wp2_with fail
    go_quiet (fail)
    go_wp2_with fail
    go_ret
    refine ⟨?_, ?_⟩
    · rw [(KEY.out _ d1).2 rfl]; rfl
    · exact below_drewN (hb1.trans (((Below.refl _ _).alloc (Nat.le_refl _) _).mono hb1.size)) _
  · have d1 : decide ((bf : Int) ≤ (a2 : Int)) = false := by rw [decide_eq_false_iff_not]; exact c1
    have d1' : decide (bf ≤ a2) = false := by rw [decide_eq_false_iff_not]; omega
    by_cases c2 : (a0 : Int) < 2 * (a3 : Int)
    · have d2 : decide ((a0 : Int) < 2 * (a3 : Int)) = true := by rw [decide_eq_true_eq]; exact c2
      have d2' : decide (a0 < 2 * a3) = true := by rw [decide_eq_true_eq]; omega
      go_wp2_with fail
      go_quiet (fail)
      go_wp2_with fail
      go_ret
      refine ⟨?_, ?_⟩
      · rw [(KEY.out _ d1).1 rfl _ d2]; rfl
      · exact below_drewN (hb1.trans (((Below.refl _ _).alloc (Nat.le_refl _) _).mono hb1.size)) _
    · have d2 : decide ((a0 : Int) < 2 * (a3 : Int)) = false := by rw [decide_eq_false_iff_not]; exact c2
      have d2' : decide (a0 < 2 * a3) = false := by rw [decide_eq_false_iff_not]; omega
      go_wp2_with fail
      go_quiet (fail)
      go_wp2_with fail
      go_ret
      refine ⟨?_, ?_⟩
      · rw [(KEY.out _ d1).1 rfl _ d2]; rfl
      · exact below_drewN (hb1.trans (((Below.refl _ _).alloc (Nat.le_refl _) _).mono hb1.size)) _

end Go.Proofs.Ythkndfkkgncjfab

namespace Go.Proofs.Ythkndfkkgncjfab
open Go.RowKit
set_option maxRecDepth 100000

/-- what is handed over, document by document -/
def ho1 (d : Dc) : Dc := if d.1 = 1 then (0, d.2) else d
def hoD (ds : List Dc) : List Dc := (ds.filter fun d => !d.2.out).map ho1
theorem hoD_hit (ds : List Dc) (k : Nat) (d : Dc) (h : ds[k]? = some d) (hd : d.2.out = false) : hoD (ds.take (k + 1)) = hoD (ds.take k) ++ [ho1 d] := by
  obtain ⟨h1, h2⟩ := List.getElem?_eq_some_iff.1 h
  unfold hoD
  rw [List.take_succ_eq_append_getElem h1, h2, List.filter_append, List.map_append]
  congr 1
  simp [hd]
theorem hoD_miss (ds : List Dc) (k : Nat) (d : Dc) (h : ds[k]? = some d) (hd : d.2.out = true) : hoD (ds.take (k + 1)) = hoD (ds.take k) := by
  obtain ⟨h1, h2⟩ := List.getElem?_eq_some_iff.1 h
  unfold hoD
  rw [List.take_succ_eq_append_getElem h1, h2, List.filter_append, List.map_append]
  simp [hd]
theorem hoD_len (ds : List Dc) (k : Nat) : (hoD (ds.take k)).length ≤ k := by
  unfold hoD
  rw [List.length_map]
  exact Nat.le_trans (List.length_filter_le _ _) (by rw [List.length_take]; omega)

theorem Try.sizeT106 : (Try.prog.info? 62).map (·.size) = some 7 := by kernel_rfl
theorem BoxAt.there {w : World} {x : Nat} {b : Box} (h : BoxAt w x b) (o n : Nat) (hn : o + n ≤ 24) : w.there x o n := by
  intro j hj
  refine ⟨?_, h.free _⟩
  rw [h.at]
  have : o + j < b.arr.size := by show o + j < 24; omega
  rw [Array.getElem?_eq_getElem this]; rfl
theorem Only.setCells {F : Nat → Prop} (x : Nat) : ∀ (vs : List Value) (o : Nat) {w : World}, F x → Only F w (w.setCells x o vs)
  | [], _, _, _ => Only.refl _ _
  | v :: r, o, w, h => (Only.setCell (w := w) ⟨x, o, none⟩ v h).trans (Only.setCells x r (o + 1) h)

set_option maxHeartbeats 1000000 in
theorem handOver_any (x : Nat) (b : Box) (ds : List Dc) (hn : Nat) (w : World) (hl : ds.length ≤ 6000) (hb : BoxAt w x b) (h : OwnD w 0 b.docs ds) (h2 : b.hand = .int .i64 (hn : Int)) (hh : hn ≤ 9000000000000000) (hone : b.c0.oneCell' = true ∧ b.c1.oneCell' = true ∧ b.c2.oneCell' = true ∧ b.c3.oneCell' = true ∧ b.c4.oneCell' = true ∧ b.c5.oneCell' = true ∧ b.c6.oneCell' = true) :
    Calls Try.prog 72 #[.pointer (some ⟨x, 3, none⟩)] w fun e w' => e = .returned (.tuple #[]) ∧ ∃ v, OwnD w' 0 v (hoD ds) ∧ BoxAt w' x { b with docs := v, m0 := b.c0, m1 := b.c1, m2 := b.c2, m3 := b.c3, m4 := b.c4, m5 := b.c5, m6 := b.c6, c0 := .slice none 0 0, c1 := .slice none 0 0, c2 := .int .i64 0, c3 := .slice none 0 0, c4 := .int .i64 0, c5 := .int .i64 0, c6 := .int .i64 0, left := .int .i64 0, hand := .int .i64 ((hn : Int) + 1) } ∧ Only (fun k => k = x) w w' ∧ ∀ k, v.ownBlock = some k → w.heap.size ≤ k := by
  obtain ⟨i0, hi, hz0, hz1, hz2⟩ := info_parts Try.info98
  obtain ⟨ao, cap, e1, hc⟩ := h.any
  have g4 := hb.g4
  rw [e1] at g4
  have hx := hb.lt
  have HC : Hid (∀ k d, ds[k]? = some d → ∃ g, ao = some (⟨g, 0, none⟩ : Addr) ∧ DcAt w g k d) := hc
  have HB : Hid (BoxAt w x b) := hb
  have H2 : Hid (b.hand = .int .i64 (hn : Int)) := h2
  clear hc e1 hb h2
  go_enter Try.func72, Try.ntmps72
  go_wp2_with (at_make; refine wpList_make_own _ rfl _ _ 59 rfl w.heap.size 98 i0 (.agg #[.int .i64 0, .string ⟨#[]⟩, .int .i64 0, .bool false, .bool false]) 5 Try.underlying59 hi hz0 hz1 .i64 .i64 _ ds.length rfl rfl (by omega) (by rw [hz2]; omega) (by unfold maxLen; omega) (Nat.le_refl _) ?_; intro w2 hown2 hgrow2; have hb2 : Below w.heap.size w w2 := (Below.refl _ _).grown hgrow2 (Nat.le_refl _) (fun k hk => by cases hk); have g42 := cell_later hb2 g4)
  have ho0 : OwnD w2 w.heap.size (.slice (some ⟨w.heap.size, 0, none⟩) 0 ds.length) [] := hown2
  clear hown2 hgrow2 g42 g4
  go_loopw [2, 16] (fun u i wr => ∃ k : Nat, k ≤ ds.length ∧ i = .int .i64 k ∧ OwnD wr w.heap.size u (hoD (ds.take k)) ∧ Below w.heap.size w wr) (fun _ i _ => ds.length - (intOf i).toNat)
  case atStart => exact ⟨0, Nat.zero_le _, rfl, ho0, hb2⟩
  case round =>
    obtain ⟨k, hk, rfl, ho, hb⟩ := hrel
    clear ho0 hb2
    have hwl := hoD_len ds k
    by_cases hlt : k < ds.length
    · obtain ⟨d, hdk⟩ : ∃ d, ds[k]? = some d := ⟨ds[k], List.getElem?_eq_getElem hlt⟩
      obtain ⟨g, rfl, hD⟩ := HC.out k d hdk
      obtain ⟨y0, y1, y2, y3, y4⟩ := hD.later hb
      have HH : Hid (d.2.out = false → hoD (ds.take (k + 1)) = hoD (ds.take k) ++ [ho1 d]) := hoD_hit ds k d hdk
      have HM : Hid (d.2.out = true → hoD (ds.take (k + 1)) = hoD (ds.take k)) := hoD_miss ds k d hdk
      clear hdk hD
      generalize hoD (ds.take k) = M at *
      obtain ⟨pt, id, doc, dd, ot⟩ := d
      simp only at *
      cases ot
      · by_cases hp : pt = 1
        · subst hp
          have HN : Hid (hoD (ds.take (k + 1)) = M ++ [(0, ⟨id, doc, dd, false⟩)]) := HH.out rfl
          have d0 : ((1 : Int) == 1) = true := rfl
          skip
          have ho2 : OwnD (wr.alloc (.cells #[.int .i64 (id : Int), .string doc, .int .i64 0, .bool dd, .bool false] 98)) w.heap.size u2 M := World.ownsRow.alloc ho _
          have hb3 : Below w.heap.size w (wr.alloc (.cells #[.int .i64 (id : Int), .string doc, .int .i64 0, .bool dd, .bool false] 98)) := hb.alloc hb.size _
          go_wp2_with (at_builtin; refine wpList_append_own _ rfl _ _ 59 rfl w.heap.size 98 i0 (.agg #[.int .i64 0, .string ⟨#[]⟩, .int .i64 0, .bool false, .bool false]) 5 40 Try.underlying59 hi hz0 hz1 hz2 rfl (by decide) _ _ _ rfl (World.ownsRow.alloc ho2 _) ⟨wr.heap.size + 1, 0, none⟩ 1 1 (DD1 (0, ⟨id, doc, dd, false⟩)) rfl rfl (news_two wr _ #[.int .i64 (id : Int), .string doc, .int .i64 0, .bool dd, .bool false] _) (by intro u hu2; simp [DD1] at hu2; rcases hu2 with rfl | rfl | rfl | rfl | rfl <;> rfl) (by unfold maxLen; omega) (by omega) (by have := hb3.size; simp at this ⊢; omega) ?_; intro v' w3 hown3 hgrow3 _)
          have R := OwnD.more (c := (0, ⟨id, doc, dd, false⟩)) ho2 hb3 hb3.size hown3 hgrow3
          clear hown3 hgrow3 ho2 hb3 ho hb
          go_wp2
          go_roundw
          case rel => exact ⟨k + 1, by omega, by go_num, by rw [HN.out]; exact R.1, R.2⟩
          case measure => simp [intOf]; omega
        · have d0 : ((pt : Int) == 1) = false := by rw [beq_eq_false_iff_ne]; omega
          have HN : Hid (hoD (ds.take (k + 1)) = M ++ [(pt, ⟨id, doc, dd, false⟩)]) := by
            have := HH.out rfl
            unfold ho1 at this
            rw [if_neg hp] at this
            exact this
          have ho2 : OwnD (wr.alloc (.cells #[.int .i64 (id : Int), .string doc, .int .i64 (pt : Int), .bool dd, .bool false] 98)) w.heap.size u2 M := World.ownsRow.alloc ho _
          have hb3 : Below w.heap.size w (wr.alloc (.cells #[.int .i64 (id : Int), .string doc, .int .i64 (pt : Int), .bool dd, .bool false] 98)) := hb.alloc hb.size _
          go_wp2_with (at_builtin; refine wpList_append_own _ rfl _ _ 59 rfl w.heap.size 98 i0 (.agg #[.int .i64 0, .string ⟨#[]⟩, .int .i64 0, .bool false, .bool false]) 5 40 Try.underlying59 hi hz0 hz1 hz2 rfl (by decide) _ _ _ rfl (World.ownsRow.alloc ho2 _) ⟨wr.heap.size + 1, 0, none⟩ 1 1 (DD1 (pt, ⟨id, doc, dd, false⟩)) rfl rfl (news_two wr _ #[.int .i64 (id : Int), .string doc, .int .i64 (pt : Int), .bool dd, .bool false] _) (by intro u hu2; simp [DD1] at hu2; rcases hu2 with rfl | rfl | rfl | rfl | rfl <;> rfl) (by unfold maxLen; omega) (by omega) (by have := hb3.size; simp at this ⊢; omega) ?_; intro v' w3 hown3 hgrow3 _)
          have R := OwnD.more (c := (pt, ⟨id, doc, dd, false⟩)) ho2 hb3 hb3.size hown3 hgrow3
          clear hown3 hgrow3 ho2 hb3 ho hb
          go_wp2
          go_roundw
          case rel => exact ⟨k + 1, by omega, by go_num, by rw [HN.out]; exact R.1, R.2⟩
          case measure => simp [intOf]; omega
      · have HN : Hid (hoD (ds.take (k + 1)) = M) := HM.out rfl
        by_cases hp : pt = 1
        · subst hp
          have d0 : ((1 : Int) == 1) = true := rfl
          go_wp2_with fail
          go_roundw
          case rel => exact ⟨k + 1, by omega, by go_num, by rw [HN.out]; exact World.ownsRow.alloc ho _, hb.alloc hb.size _⟩
          case measure => simp [intOf]; omega
        · have d0 : ((pt : Int) == 1) = false := by rw [beq_eq_false_iff_ne]; omega
          go_wp2_with fail
          go_roundw
          case rel => exact ⟨k + 1, by omega, by go_num, by rw [HN.out]; exact World.ownsRow.alloc ho _, hb.alloc hb.size _⟩
          case measure => simp [intOf]; omega
    · have hke : k = ds.length := by omega
      subst hke
      rw [List.take_of_length_le (Nat.le_refl _)] at ho hwl
      have hr := HB.out.below hb
      have hap := ho.apart hr
      have hlo : ∀ q, u2.ownBlock = some q → w.heap.size ≤ q := fun q hq => (World.ownsRow.lt ho q hq).1
      obtain ⟨au, capu, eu, _⟩ := ho.any
      subst eu
      have g4 := hr.g4
      have f4 := hr.free 4
      have R1 := hr.s4 (.slice au (hoD ds).length capu)
      have k0 := R1.g13
      have k1 := R1.g14
      have k2 := R1.g15
      have k3 := R1.g16
      have k4 := R1.g17
      have k5 := R1.g18
      have k6 := R1.g19
      have R2 : BoxAt ((wr.setCell ⟨x, 4, none⟩ (.slice au (hoD ds).length capu)).setCells x 6 [b.c0, b.c1, b.c2, b.c3, b.c4, b.c5, b.c6]) x _ := ((((((R1.s6 b.c0).s7 b.c1).s8 b.c2).s9 b.c3).s10 b.c4).s11 b.c5).s12 b.c6
      have R3 : BoxAt (((wr.setCell ⟨x, 4, none⟩ (.slice au (hoD ds).length capu)).setCells x 6 [b.c0, b.c1, b.c2, b.c3, b.c4, b.c5, b.c6]).setCells x 13 [.slice none 0 0, .slice none 0 0, .int .i64 0, .slice none 0 0, .int .i64 0, .int .i64 0, .int .i64 0]) x _ := ((((((R2.s13 (.slice none 0 0)).s14 (.slice none 0 0)).s15 (.int .i64 0)).s16 (.slice none 0 0)).s17 (.int .i64 0)).s18 (.int .i64 0)).s19 (.int .i64 0)
      have hTa := R1.there 6 7 (by decide)
      have hTb := R2.there 13 7 (by decide)
      have j20 := R3.g20
      have f20 := R3.free 20
      have R4 := R3.s20 (.int .i64 0)
      have j22 := R4.g22
      simp only [H2.out] at j22
      have f22 := R4.free 22
      have R5 : Hid (BoxAt _ _ _) := R4.s22 (.int .i64 ((hn : Int) + 1))
      have HO : Hid (Only (fun k => k = x) w (((((wr.setCell ⟨x, 4, none⟩ (.slice au (hoD ds).length capu)).setCells x 6 [b.c0, b.c1, b.c2, b.c3, b.c4, b.c5, b.c6]).setCells x 13 [.slice none 0 0, .slice none 0 0, .int .i64 0, .slice none 0 0, .int .i64 0, .int .i64 0, .int .i64 0]).setCell ⟨x, 20, none⟩ (.int .i64 0)).setCell ⟨x, 22, none⟩ (.int .i64 ((hn : Int) + 1)))) := by
        refine Only.trans (Only.trans (Only.trans (Only.trans (Only.trans (Only.of_below hb) (Only.setCell _ _ rfl)) (Only.setCells _ _ _ rfl)) (Only.setCells _ _ _ rfl)) (Only.setCell _ _ rfl)) (Only.setCell _ _ rfl)
      have HOW : Hid (OwnD (((((wr.setCell ⟨x, 4, none⟩ (.slice au (hoD ds).length capu)).setCells x 6 [b.c0, b.c1, b.c2, b.c3, b.c4, b.c5, b.c6]).setCells x 13 [.slice none 0 0, .slice none 0 0, .int .i64 0, .slice none 0 0, .int .i64 0, .int .i64 0, .int .i64 0]).setCell ⟨x, 20, none⟩ (.int .i64 0)).setCell ⟨x, 22, none⟩ (.int .i64 ((hn : Int) + 1))) 0 (.slice au (hoD ds).length capu) (hoD ds)) := by
        refine OwnD.only (F := fun k => k = x) (ho.weaken (Nat.zero_le _)) (Only.trans (Only.trans (Only.trans (Only.trans (Only.setCell _ _ rfl) (Only.setCells _ _ _ rfl)) (Only.setCells _ _ _ rfl)) (Only.setCell _ _ rfl)) (Only.setCell _ _ rfl)) (fun q hq e => hap (by rw [← e]; exact hq))
      have H1 : (#[b.c0, b.c1, b.c2, b.c3, b.c4, b.c5, b.c6] : Array Value).all (·.oneCell') = true := by simp [hone]
      clear R1 R2 R3 R4
      go_wp2_with (first | (with_reducible refine wpList_store_mid rfl 62 (.tmp 42) (.tmp 40) rfl x 6 #[b.c0, b.c1, b.c2, b.c3, b.c4, b.c5, b.c6] ?_ ?_ ?_ ?_ ?_ ?_) | (with_reducible refine wpList_store_mid rfl 62 (.tmp 46) (.tmp 44) rfl x 13 #[.slice none 0 0, .slice none 0 0, .int .i64 0, .slice none 0 0, .int .i64 0, .int .i64 0, .int .i64 0] ?_ ?_ ?_ ?_ ?_ ?_))
      · exact Option.map_eq_some_iff.1 Try.sizeT106
      · exact Option.map_eq_some_iff.1 Try.sizeT106
      · exact ⟨rfl, rfl, rfl, rfl⟩
      · go_end0
        exact ⟨rfl, _, HOW.out, R5.out, HO.out, hlo⟩

end Go.Proofs.Ythkndfkkgncjfab
