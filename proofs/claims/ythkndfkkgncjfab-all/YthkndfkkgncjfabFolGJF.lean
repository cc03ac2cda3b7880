/- ShfD, ShfH, ShfI, ShfJ, ShfK, ShfL, ShfM, ShfN, ShfO, ShfP, ShfQ. -/
import Derived.Test.YthkndfkkgncjfabFolGJE
import Derived.Test.YthkndfkkgncjfabFolGJC
import Derived.Test.YthkndfkkgncjfabFolGJD
import Derived.Test.YthkndfkkgncjfabFolGJA
namespace Go.Proofs.Ythkndfkkgncjfab
open Go.RowKit
set_option maxRecDepth 100000

/-- of the index's hits, those of documents that are there -/
def o1 (l : List Do.Oc) (cs : List Do.Chg) : List Do.Oc := l.filter fun o => (fdRes cs (o.id : Int)).2
/-- the hits of the documents that the index doesn't hold -/
def o2 (ds : List Dc) (p : List UInt8) : List Do.Oc := ds.flatMap fun d => if d.1 = 0 ∨ d.2.dead = true then [] else Do.hitsIn (Pa.chg d.2) p (d.2.doc.size + 1)
theorem o1_hit (l : List Do.Oc) (cs : List Do.Chg) (k : Nat) (o : Do.Oc) (h : l[k]? = some o) (hb : (fdRes cs (o.id : Int)).2 = true) : o1 (l.take (k + 1)) cs = o1 (l.take k) cs ++ [o] := by
  obtain ⟨h1, h2⟩ := List.getElem?_eq_some_iff.1 h
  unfold o1
  rw [List.take_succ_eq_append_getElem h1, h2, List.filter_append]
  simp [hb]
theorem o1_miss (l : List Do.Oc) (cs : List Do.Chg) (k : Nat) (o : Do.Oc) (h : l[k]? = some o) (hb : (fdRes cs (o.id : Int)).2 = false) : o1 (l.take (k + 1)) cs = o1 (l.take k) cs := by
  obtain ⟨h1, h2⟩ := List.getElem?_eq_some_iff.1 h
  unfold o1
  rw [List.take_succ_eq_append_getElem h1, h2, List.filter_append]
  simp [hb]
theorem o1_len (l : List Do.Oc) (cs : List Do.Chg) (k : Nat) : (o1 (l.take k) cs).length ≤ k := by
  unfold o1
  exact Nat.le_trans (List.length_filter_le _ _) (by rw [List.length_take]; omega)
theorem o2_succ (ds : List Dc) (p : List UInt8) (k : Nat) (d : Dc) (h : ds[k]? = some d) : o2 (ds.take (k + 1)) p = o2 (ds.take k) p ++ (if d.1 = 0 ∨ d.2.dead = true then [] else Do.hitsIn (Pa.chg d.2) p (d.2.doc.size + 1)) := by
  obtain ⟨h1, h2⟩ := List.getElem?_eq_some_iff.1 h
  unfold o2
  rw [List.take_succ_eq_append_getElem h1, h2, List.flatMap_append]
  simp
theorem o2_len (ds : List Dc) (p : List UInt8) (hsm : ∀ d ∈ ds, d.2.doc.size ≤ 40) : ∀ k, (o2 (ds.take k) p).length ≤ 41 * k := by
  intro k
  induction k with
  | zero => simp [o2]
  | succ k ih =>
    rcases Nat.lt_or_ge k ds.length with hk | hk
    · rw [o2_succ ds p k ds[k] (List.getElem?_eq_getElem hk), List.length_append]
      have h1 := hsm ds[k] (List.getElem_mem hk)
      have h2 := Do.hitsIn_len (Pa.chg ds[k].2) p (ds[k].2.doc.size + 1)
      split
      · simp; omega
      · omega
    · have e : ds.take (k + 1) = ds.take k := by rw [List.take_of_length_le (by omega), List.take_of_length_le hk]
      rw [e]; omega

theorem DocAt.c0 {w : World} {g : Nat} {d : Dc} (h : DocAt w g d) : w.cell? ⟨g, 0, none⟩ = some (.int .i64 (d.2.id : Int)) := by rw [cell_of_row w g 0 _ 98 (0, 0) h]; rfl
theorem DocAt.below {w w' : World} {g : Nat} {d : Dc} (h : DocAt w g d) (hb : Below w.heap.size w w') : DocAt w' g d := (hb.block g (lt_of_block h)).trans h
theorem doc_oc {w w1 : World} {B g : Nat} {v : Value} {m : List Do.Oc} {d : Dc} {o : Obj} (hd : DocAt w g d) (hu : OwnO w B v m) (h2 : (w.alloc o).grownBy w1 v.ownBlock) : DocAt w1 g d := by
  have hdl := lt_of_block hd
  have hne : v.ownBlock ≠ some g := by
    intro e
    rcases hu.2 with ⟨rfl, _⟩ | ⟨g', cap, cur, rfl, _, hg, _⟩
    · simp [Value.ownBlock] at e
    · simp [Value.ownBlock] at e
      rw [e, hd] at hg
      simp at hg
  unfold DocAt
  rw [h2.block g (by simp; omega) (fun e => hne e.symm), Below.heap_alloc w o g hdl]; exact hd

set_option maxHeartbeats 2000000 in
theorem occ_any (x : Nat) (b : Box) (B : Nat) (l : List Lx.Rw) (ds : List Dc) (p : ByteArray) (w : World) (hM : MainIn w x b l) (hso : Lx.Sorted l) (hll : l.length ≤ 6000) (hrd : ∀ r ∈ l, r.doc.size ≤ 40) (hp : 1 ≤ p.size ∧ p.size ≤ 16)
    (hl : ds.length ≤ 6000) (hsm : ∀ d ∈ ds, d.2.doc.size ≤ 40) (h : OwnD w B b.docs ds) :
    Calls Try.prog 41 #[.pointer (some ⟨x, 3, none⟩), .string p] w fun e w' => ∃ u, e = .returned u ∧ OwnO w' w.heap.size u (o1 (Lx.fnd l p.data.toList) (al ds) ++ o2 ds p.data.toList) ∧ Below w.heap.size w w' := by
  obtain ⟨i0, hi, hz0, hz1, hz2⟩ := info_parts Try.info44
  have HF : Hid (Calls Try.prog 68 #[.pointer (some ⟨x, 6, none⟩), .string p] w fun e w' => ∃ u, e = .returned u ∧ OwnO w' w.heap.size u (Lx.fnd l p.data.toList) ∧ Below w.heap.size w w') := lexFind_any x b l p w hM hso hll hrd hp
  have HBX : Hid (BoxAt w x b) := hM.box
  have HOD : Hid (OwnD w B b.docs ds) := h
  have HSM : Hid (∀ d ∈ ds, d.2.doc.size ≤ 40) := hsm
  have hfl : (Lx.fnd l p.data.toList).length ≤ 6000 := by
    have := Lx.fnd_len l p.data.toList l.length
    rw [← Lx.fnd_all] at this; omega
  generalize Lx.fnd l p.data.toList = L at *
  clear hM hso hll hrd h hsm
  go_enter Try.func41, Try.ntmps41
  go_wp2_with fail
  refine HF.out.mono ?_
  rintro e w1 ⟨u, rfl, hu, hb1⟩
  obtain ⟨av, capo, rfl, hc⟩ := hu.cells'
  have HC : Hid (∀ k o, L[k]? = some o → ∃ g, av = some (⟨g, 0, none⟩ : Addr) ∧ w1.cell? ⟨g, k * 2, none⟩ = some (.int .i64 (o.id : Int)) ∧ w1.cell? ⟨g, k * 2 + 1, none⟩ = some (.int .i64 (o.at' : Int))) := hc
  clear hc HF
  have hs1 := hb1.size
  go_wp2_with fail
  go_loopw [5, 21] (fun u v wr => ∃ k : Nat, k ≤ L.length ∧ v = .int .i64 k ∧ OwnO wr w1.heap.size u (o1 (L.take k) (al ds)) ∧ Below w1.heap.size w1 wr) (fun _ v _ => L.length - (intOf v).toNat)
  case atStart => exact ⟨0, Nat.zero_le _, rfl, World.ownsRow_nil _ _ _ _, Below.refl _ _⟩
  case round =>
    obtain ⟨k, hk, rfl, ho, hb⟩ := hrel
    have hol := o1_len L (al ds) k
    by_cases hlt : k < L.length
    · obtain ⟨o, hok⟩ : ∃ o, L[k]? = some o := ⟨L[k], List.getElem?_eq_getElem hlt⟩
      obtain ⟨g, rfl, y0, y1⟩ := HC.out k o hok
      have y0' := cell_later hb y0
      have y1' := cell_later hb y1
      have hal : Below wr.heap.size wr (wr.alloc (.cells #[.int .i64 (o.id : Int), .int .i64 (o.at' : Int)] 44)) := (Below.refl _ _).alloc (Nat.le_refl _) _
      have hba : Below w1.heap.size w1 (wr.alloc (.cells #[.int .i64 (o.id : Int), .int .i64 (o.at' : Int)] 44)) := hb.alloc hb.size _
      have hH : HAt (wr.alloc (.cells #[.int .i64 (o.id : Int), .int .i64 (o.at' : Int)] 44)) wr.heap.size (o.id : Int) (o.at' : Int) := heap_alloc_new wr _
      have hoa : OwnO (wr.alloc (.cells #[.int .i64 (o.id : Int), .int .i64 (o.at' : Int)] 44)) w1.heap.size u5 (o1 (L.take k) (al ds)) := World.ownsRow.alloc ho _
      have hbw := hb1.trans (hba.mono hb1.size)
      obtain ⟨r, hr⟩ : ∃ r, fdRes (al ds) (o.id : Int) = r := ⟨_, rfl⟩
      have HFD : Hid (Calls Try.prog 44 #[.pointer (some ⟨x, 3, none⟩), .int .i64 (o.id : Int)] (wr.alloc (.cells #[.int .i64 (o.id : Int), .int .i64 (o.at' : Int)] 44)) fun e w' => e = .returned (.tuple #[.string r.1, .bool r.2]) ∧ Below (wr.alloc (.cells #[.int .i64 (o.id : Int), .int .i64 (o.at' : Int)] 44)).heap.size (wr.alloc (.cells #[.int .i64 (o.id : Int), .int .i64 (o.at' : Int)] 44)) w') := sFind_any x b B ds (o.id : Int) r _ hr hl (HBX.out.below hbw) (HOD.out.below hbw)
      have HO1 : Hid (r.2 = true → o1 (L.take (k + 1)) (al ds) = o1 (L.take k) (al ds) ++ [o]) := fun h => o1_hit L _ k o hok (by rw [hr]; exact h)
      have HO2 : Hid (r.2 = false → o1 (L.take (k + 1)) (al ds) = o1 (L.take k) (al ds)) := fun h => o1_miss L _ k o hok (by rw [hr]; exact h)
      clear hok hr y0 y1 hbw
      generalize o1 (L.take k) (al ds) = M at *
      obtain ⟨rs, rb⟩ := r
      go_wp2_with fail
      refine HFD.out.mono ?_
      rintro e w2 ⟨rfl, hb2⟩
      clear HFD
      have hH2 := hH.below hb2
      have ho2 : OwnO w2 w1.heap.size u5 M := hoa.below hb2
      have b2 : Below w1.heap.size w1 w2 := hba.trans (hb2.mono hba.size)
      have q0 := hH2.c0
      have q1 := hH2.c1
      cases rb
      · have HN := HO2.out rfl
        go_wp2_with fail
        go_roundw
        case rel => exact ⟨k + 1, by omega, by go_num, by rw [HN]; exact ho2, b2⟩
        case measure => simp [intOf]; omega
      · have HN := HO1.out rfl
        go_wp2_with (at_builtin; refine wpList_append_own _ rfl _ _ 31 rfl w1.heap.size 44 i0 (.agg #[.int .i64 0, .int .i64 0]) 2 16 Try.underlying31 hi hz0 hz1 hz2 rfl (by decide) _ _ _ rfl (World.ownsRow.alloc ho2 _) ⟨w2.heap.size, 0, none⟩ 1 1 (OC1 o) rfl rfl (World.news_of_block (cs := #[.int .i64 (o.id : Int), .int .i64 (o.at' : Int)]) (heap_alloc_new w2 _)) (by intro u hu2; simp [OC1] at hu2; rcases hu2 with rfl | rfl <;> rfl) (by unfold maxLen; omega) (by omega) (by have := b2.size; simp; omega) ?_; intro v' w3 hown3 hgrow3 _)
        have R := oc_more (b := o) ho2 b2 b2.size hown3 hgrow3
        clear hown3 hgrow3
        go_wp2
        go_roundw
        case rel => exact ⟨k + 1, by omega, by go_num, by rw [HN]; exact R.1, R.2⟩
        case measure => simp [intOf]; omega
    · have hke : k = L.length := by omega
      subst hke
      rw [List.take_of_length_le (Nat.le_refl _)] at ho hol
      have hb3 : Below w.heap.size w wr := hb1.trans (hb.mono hb1.size)
      obtain ⟨ao, capd, ed, hcd⟩ := HOD.out.any
      have g4 := (HBX.out.below hb3).g4
      rw [ed] at g4
      obtain ⟨M, hMe⟩ : ∃ M, o1 L (al ds) = M := ⟨_, rfl⟩
      have HM : Hid (o1 L (al ds) = M) := hMe
      rw [hMe] at ho hol
      clear hMe
      obtain ⟨wv, hwv⟩ : ∃ wv, wv = wr := ⟨_, rfl⟩
      subst hwv
      have HCD : Hid (∀ k d, ds[k]? = some d → ∃ g, ao = some (⟨g, 0, none⟩ : Addr) ∧ DcAt w g k d) := hcd
      clear hcd HC
      go_wp2_with fail
      go_loopw [5, 43] (fun u v wr => ∃ k : Nat, k ≤ ds.length ∧ v = .int .i64 k ∧ OwnO wr w1.heap.size u (M ++ o2 (ds.take k) p.data.toList) ∧ Below w1.heap.size w1 wr) (fun _ v _ => ds.length - (intOf v).toNat)
      case atStart => exact ⟨0, Nat.zero_le _, rfl, by simpa [o2] using ho, hb⟩
      case round =>
        obtain ⟨k, hk, rfl, ho', hbb⟩ := hrel
        have h2l := o2_len ds p.data.toList HSM.out k
        by_cases hlt : k < ds.length
        · obtain ⟨d, hdk⟩ : ∃ d, ds[k]? = some d := ⟨ds[k], List.getElem?_eq_getElem hlt⟩
          obtain ⟨g, rfl, hD⟩ := HCD.out k d hdk
          obtain ⟨y0, y1, y2, y3, y4⟩ := hD.later (hb1.trans (hbb.mono hs1))
          have hds := HSM.out d (List.mem_of_getElem? hdk)
          have HS := o2_succ ds p.data.toList k d hdk
          clear hdk hD
          obtain ⟨pt, id, doc, dd, ot⟩ := d
          simp only at *
          by_cases hpt : pt = 0
          · subst hpt
            have HN : Hid (o2 (ds.take (k + 1)) p.data.toList = o2 (ds.take k) p.data.toList) := by show _ = _; rw [HS]; simp
            have d0 : ((0 : Int) == 0) = true := rfl
            go_wp2_with fail
            go_roundw
            case rel => exact ⟨k + 1, by omega, by go_num, by rw [HN.out]; exact World.ownsRow.alloc ho' _, hbb.alloc hbb.size _⟩
            case measure => simp [intOf]; omega
          · have d0 : ((pt : Int) == 0) = false := by rw [beq_eq_false_iff_ne]; omega
            cases dd
            · have HX : Hid (o2 (ds.take (k + 1)) p.data.toList = o2 (ds.take k) p.data.toList ++ Do.hitsIn ⟨true, doc, id⟩ p.data.toList (doc.size + 1)) := by show _ = _; rw [HS, if_neg (by simp [hpt])]; rfl
              clear HS
              generalize o2 (ds.take k) p.data.toList = N at *
              obtain ⟨wo, hwo⟩ : ∃ wo, wo = wr := ⟨_, rfl⟩
              subst hwo
              have hal : Below wo.heap.size wo (wo.alloc (.cells #[.int .i64 (id : Int), .string doc, .int .i64 (pt : Int), .bool false, .bool ot] 98)) := (Below.refl _ _).alloc (Nat.le_refl _) _
              have D0 : DocAt (wo.alloc (.cells #[.int .i64 (id : Int), .string doc, .int .i64 (pt : Int), .bool false, .bool ot] 98)) wo.heap.size (pt, ⟨id, doc, false, ot⟩) := heap_alloc_new wo _
              have oA : OwnO (wo.alloc (.cells #[.int .i64 (id : Int), .string doc, .int .i64 (pt : Int), .bool false, .bool ot] 98)) w1.heap.size u5 (M ++ N) := World.ownsRow.alloc ho' _
              have bA : Below w1.heap.size w1 (wo.alloc (.cells #[.int .i64 (id : Int), .string doc, .int .i64 (pt : Int), .bool false, .bool ot] 98)) := hbb.alloc hbb.size _
              have hNl : (M ++ N).length ≤ 300000 := by rw [List.length_append]; omega
              generalize hMN : M ++ N = MN at *
              go_wp2_with fail
              generalize wo.alloc (.cells #[.int .i64 (id : Int), .string doc, .int .i64 (pt : Int), .bool false, .bool ot] 98) = wd at *
              go_loopw [5, 13] (fun u a wr => ∃ j : Nat, j ≤ doc.size + 1 ∧ a = .int .i64 j ∧ OwnO wr w1.heap.size u (MN ++ Do.hitsIn ⟨true, doc, id⟩ p.data.toList j) ∧ DocAt wr wo.heap.size (pt, ⟨id, doc, false, ot⟩) ∧ Below w1.heap.size w1 wr) (fun _ a _ => doc.size + 1 - (intOf a).toNat)
              case atStart => exact ⟨0, Nat.zero_le _, rfl, by simpa [Do.hitsIn] using oA, D0, bA⟩
              case round =>
                obtain ⟨j, hj, rfl, oj, Dj, bj⟩ := hrel
                have e0 := Dj.c0
                have e1 := Dj.c1
                have hjl := Do.hitsIn_len ⟨true, doc, id⟩ p.data.toList j
                by_cases h1 : j ≤ doc.size
                · have d1 : decide ((j : Int) ≤ (doc.size : Int)) = true := by rw [decide_eq_true_eq]; omega
                  obtain ⟨q, hq⟩ : ∃ q, Fo.pre doc.data.toList p.data.toList j = q := ⟨_, rfl⟩
                  have HST : Hid (∀ w, Calls Try.prog 69 #[.string doc, .string p, .int .i64 (j : Int)] w fun e w' => e = .returned (.bool q) ∧ w' = w) := fun w => stands_at doc p j q hq w (by omega) h1 (by omega)
                  have hml : (MN ++ Do.hitsIn ⟨true, doc, id⟩ p.data.toList j).length ≤ 301000 := by rw [List.length_append]; omega
                  have HH1 : Hid (q = true → MN ++ Do.hitsIn ⟨true, doc, id⟩ p.data.toList (j + 1) = MN ++ Do.hitsIn ⟨true, doc, id⟩ p.data.toList j ++ [⟨id, j⟩]) := fun h => by rw [Do.hitsIn_hit _ _ _ (by rw [hq]; exact h), List.append_assoc]
                  have HH2 : Hid (q = false → MN ++ Do.hitsIn ⟨true, doc, id⟩ p.data.toList (j + 1) = MN ++ Do.hitsIn ⟨true, doc, id⟩ p.data.toList j) := fun h => by rw [Do.hitsIn_miss _ _ _ (by rw [hq]; exact h)]
                  clear hq hjl
                  generalize MN ++ Do.hitsIn ⟨true, doc, id⟩ p.data.toList j = Q at *
                  cases q
                  · have HN := HH2.out rfl
                    go_wp2_with fail
                    refine (HST.out _).mono ?_
                    rintro e w5 ⟨rfl, hw5⟩; rw [hw5]; clear hw5
                    go_wp2_with fail
                    go_roundw
                    case rel => exact ⟨j + 1, by omega, by go_num, by rw [HN]; exact oj, Dj, bj⟩
                    case measure => simp [intOf]; omega
                  · have HN := HH1.out rfl
                    go_wp2_with fail
                    refine (HST.out _).mono ?_
                    rintro e w5 ⟨rfl, hw5⟩; rw [hw5]; clear hw5
                    go_wp2_with (at_builtin; refine wpList_append_own _ rfl _ _ 31 rfl w1.heap.size 44 i0 (.agg #[.int .i64 0, .int .i64 0]) 2 16 Try.underlying31 hi hz0 hz1 hz2 rfl (by decide) _ _ _ rfl (World.ownsRow.alloc oj _) ⟨wr.heap.size, 0, none⟩ 1 1 (OC1 ⟨id, j⟩) rfl rfl (World.news_of_block (cs := #[.int .i64 (id : Int), .int .i64 (j : Int)]) (heap_alloc_new wr _)) (by intro u hu2; simp [OC1] at hu2; rcases hu2 with rfl | rfl <;> rfl) (by unfold maxLen; omega) (by omega) (by have := bj.size; simp; omega) ?_; intro v' w3 hown3 hgrow3 _)
                    have R := oc_more (b := ⟨id, j⟩) oj bj bj.size hown3 hgrow3
                    have RD := doc_oc Dj oj hgrow3
                    clear hown3 hgrow3
                    go_wp2
                    go_roundw
                    case rel => exact ⟨j + 1, by omega, by go_num, by rw [HN]; exact R.1, RD, R.2⟩
                    case measure => simp [intOf]; omega
                · have d1 : decide ((j : Int) ≤ (doc.size : Int)) = false := by rw [decide_eq_false_iff_not]; omega
                  obtain rfl : j = doc.size + 1 := by omega
                  go_wp2_with fail
                  go_roundw
                  case rel => exact ⟨k + 1, by omega, by go_num, by rw [HX.out, ← List.append_assoc, hMN]; exact oj, bj⟩
                  case measure => simp [intOf]; omega
            · have HN : Hid (o2 (ds.take (k + 1)) p.data.toList = o2 (ds.take k) p.data.toList) := by show _ = _; rw [HS]; simp
              go_wp2_with fail
              go_roundw
              case rel => exact ⟨k + 1, by omega, by go_num, by rw [HN.out]; exact World.ownsRow.alloc ho' _, hbb.alloc hbb.size _⟩
              case measure => simp [intOf]; omega
        · have hke : k = ds.length := by omega
          subst hke
          rw [List.take_of_length_le (Nat.le_refl _)] at ho'
          go_wp2_with fail
          go_ret
          exact ⟨_, rfl, by rw [HM.out]; exact ho'.weaken hs1, hb1.trans (hbb.mono hs1)⟩

end Go.Proofs.Ythkndfkkgncjfab

namespace Go.Proofs.Ythkndfkkgncjfab
open Go.RowKit
set_option maxRecDepth 100000

/-- the rows that a rebuild begins with -/
def beR (ds : List Dc) : List Lx.Rw := (ds.filter fun d => !d.2.dead).map fun d => Lx.row0 d.2
theorem beR_hit (ds : List Dc) (k : Nat) (d : Dc) (h : ds[k]? = some d) (hd : d.2.dead = false) : beR (ds.take (k + 1)) = beR (ds.take k) ++ [Lx.row0 d.2] := by
  obtain ⟨h1, h2⟩ := List.getElem?_eq_some_iff.1 h
  unfold beR
  rw [List.take_succ_eq_append_getElem h1, h2, List.filter_append, List.map_append]
  congr 1
  simp [hd]
theorem beR_miss (ds : List Dc) (k : Nat) (d : Dc) (h : ds[k]? = some d) (hd : d.2.dead = true) : beR (ds.take (k + 1)) = beR (ds.take k) := by
  obtain ⟨h1, h2⟩ := List.getElem?_eq_some_iff.1 h
  unfold beR
  rw [List.take_succ_eq_append_getElem h1, h2, List.filter_append, List.map_append]
  simp [hd]
/-- the weight of what is there -/
def aw (cs : List Do.Chg) : Nat := Do.size cs + cs.length

theorem beR_len (ds : List Dc) : (beR ds).length = (al ds).length := by unfold beR al; rw [List.length_map, List.length_map]
theorem al_take (ds : List Dc) (k : Nat) : (al (ds.take k)).length ≤ (al ds).length := by rw [al_split ds k, List.length_append]; omega
theorem aw_hit (ds : List Dc) (k : Nat) (d : Dc) (h : ds[k]? = some d) (hd : d.2.dead = false) : aw (al (ds.take (k + 1))) = aw (al (ds.take k)) + (d.2.doc.size + 1) := by
  unfold aw
  rw [al_hit ds k d h hd, Do.sizes_append, List.length_append]
  show Do.size _ + d.2.doc.size + (_ + 1) = _
  omega
theorem aw_miss (ds : List Dc) (k : Nat) (d : Dc) (h : ds[k]? = some d) (hd : d.2.dead = true) : aw (al (ds.take (k + 1))) = aw (al (ds.take k)) := by rw [al_miss ds k d h hd]
theorem be_take (ds : List Dc) (k : Nat) (d : Dc) (h : ds[k]? = some d) : (ds.take (k + 1)).map be1 = (ds.take k).map be1 ++ [be1 d] := by
  obtain ⟨h1, h2⟩ := List.getElem?_eq_some_iff.1 h
  rw [List.take_succ_eq_append_getElem h1, h2, List.map_append]; rfl
theorem aw_le (ds : List Dc) (hsm : ∀ d ∈ ds, d.2.doc.size ≤ 40) (hal : (al ds).length ≤ 60) (k : Nat) : aw (al (ds.take k)) ≤ 2460 := by
  have h1 := al_take ds k
  have h2 := size_le (al (ds.take k)) (fun c hc => by
    unfold al at hc
    rw [List.mem_map] at hc
    obtain ⟨d, hd, rfl⟩ := hc
    exact hsm d (List.mem_of_mem_take (List.mem_filter.1 hd).1))
  unfold aw; omega
theorem DcAt.only {w w' : World} {g k : Nat} {d : Dc} {F : Nat → Prop} (h : DcAt w g k d) (ho : Only F w w') (hg : ¬ F g) : DcAt w' g k d := by
  have hl : g < w.heap.size := World.block_lt_of_cell? w _ h.1
  obtain ⟨h0, h1, h2, h3, h4⟩ := h
  have hb := ho.block g hl hg
  exact ⟨(World.cell?_of_block hb).trans h0, (World.cell?_of_block hb).trans h1, (World.cell?_of_block hb).trans h2, (World.cell?_of_block hb).trans h3, (World.cell?_of_block hb).trans h4⟩

theorem DocAt.c4 {w : World} {g : Nat} {d : Dc} (h : DocAt w g d) : w.cell? ⟨g, 4, none⟩ = some (.bool d.2.out) := by rw [cell_of_row w g 4 _ 98 (0, 0) h]; rfl
/-- one document more is laid, the lexicon beside it -/
theorem be_step {w w1 : World} {x B : Nat} {b : Box} {l : Lx.Lex} {R : List Lx.Rw} {v v' : Value} {m : List Dc} {c : Dc} {o : Obj} (hL : LexIn w x b l) (hW : OwnR w 0 b.c0 R) (hu : OwnD w B v m)
    (h1 : w1.ownsRow B 98 5 v' (m.length + 1) (DD m ++ DD1 c)) (h2 : (w.alloc o).grownBy w1 v.ownBlock) : OwnD w1 B v' (m ++ [c]) ∧ LexIn w1 x b l ∧ OwnR w1 0 b.c0 R ∧ Only (fun q => v.ownBlock = some q) w w1 := by
  have ho := grown_only' h2
  have n0 : ∀ q, b.c0.ownBlock = some q → ¬ v.ownBlock = some q := fun q hq e => hu.apartR hW q e hq
  have n1 : ∀ q, b.c1.ownBlock = some q → ¬ v.ownBlock = some q := fun q hq e => hu.apartR hL.runs q e hq
  have n3 : ∀ q, b.c3.ownBlock = some q → ¬ v.ownBlock = some q := fun q hq e => hu.apartR hL.mg q e hq
  refine ⟨?_, ⟨hL.box.only ho (hu.apart hL.box), hL.wait.only ho n0, hL.runs.only ho n1, hL.wid, hL.mg.only ho n3, hL.st, hL.lf, hL.rg, hL.a1, hL.a2, hL.a3⟩, hW.only ho n0, ho⟩
  unfold OwnD
  rw [DD_append, List.length_append]
  have : DD [c] = DD1 c := by simp [DD]
  rw [this]; exact h1

set_option maxHeartbeats 1000000 in
theorem begin_any (x : Nat) (b : Box) (ds : List Dc) (bf : Nat) (w : World) (hl : ds.length ≤ 6000) (hsm : ∀ d ∈ ds, d.2.doc.size ≤ 40) (hal : (al ds).length ≤ 60) (hbf : bf ≤ 80) (hx : LexIn w x b Lx.empty) (hv : OwnR w 0 b.c0 []) (h : OwnD w 0 b.docs ds) (h3 : b.buf = .int .i64 (bf : Int)) :
    Calls Try.prog 74 #[.pointer (some ⟨x, 3, none⟩)] w fun e w' => e = .returned (.tuple #[]) ∧ ∃ b' v, LexIn w' x b' (Lx.begin' (beR ds)) ∧ OwnD w' 0 v (ds.map be1) ∧ b' = { b with docs := v, c0 := b'.c0, c1 := b'.c1, c2 := b'.c2, c3 := b'.c3, c4 := b'.c4, c5 := b'.c5, c6 := b'.c6, left := .int .i64 (Pa.units (aw (al ds)) : Nat), speed := .int .i64 (Pa.speedOf bf (Pa.units (aw (al ds))) : Nat) } ∧ Only (fun k => lfoot x b k) w w' ∧ OwnR w' 0 b'.c0 (beR ds) ∧ (∀ k, v.ownBlock = some k → w.heap.size ≤ k) ∧ ∀ k, lfoot x b' k → lfoot x b k ∨ w.heap.size ≤ k := by
  obtain ⟨i0, hi, hz0, hz1, hz2⟩ := info_parts Try.info98
  obtain ⟨ao, cap, e1, hc⟩ := h.any
  have g4 := hx.box.g4
  rw [e1] at g4
  have HC : Hid (∀ k d, ds[k]? = some d → ∃ g, ao = some (⟨g, 0, none⟩ : Addr) ∧ DcAt w g k d) := hc
  have HX : Hid (LexIn w x b Lx.empty) := hx
  have H3 : Hid (b.buf = .int .i64 (bf : Int)) := h3
  have HE : Hid (b.docs = .slice ao ds.length cap) := e1
  clear hc e1 h3 hx
  go_enter Try.func74, Try.ntmps74
  go_wp2_with (at_make; refine wpList_make_own _ rfl _ _ 59 rfl w.heap.size 98 i0 (.agg #[.int .i64 0, .string ⟨#[]⟩, .int .i64 0, .bool false, .bool false]) 5 Try.underlying59 hi hz0 hz1 .i64 .i64 _ ds.length rfl rfl (by omega) (by rw [hz2]; omega) (by unfold maxLen; omega) (Nat.le_refl _) ?_; intro w2 hown2 hgrow2; have hb2 : Below w.heap.size w w2 := (Below.refl _ _).grown hgrow2 (Nat.le_refl _) (fun k hk => by cases hk); have g42 := cell_later hb2 g4)
  have ho0 : OwnD w2 w.heap.size (.slice (some ⟨w.heap.size, 0, none⟩) 0 ds.length) [] := hown2
  clear hown2 hgrow2 g42 g4
  have HSM : Hid (∀ d ∈ ds, d.2.doc.size ≤ 40) := hsm
  have HAL : Hid (∀ k, aw (al (ds.take k)) ≤ 2460) := aw_le ds hsm hal
  have HNF : Hid (∀ g, ao = some (⟨g, 0, none⟩ : Addr) → ¬ lfoot x b g) := by
    intro g hg hf
    have hob : b.docs.ownBlock = some g := by rw [HE.out, hg]; rfl
    rcases hf with hf | hf | hf | hf
    · subst hf; exact h.apart HX.out.box hob
    · exact h.apartR hv g hob hf
    · exact h.apartR HX.out.runs g hob hf
    · exact h.apartR HX.out.mg g hob hf
  clear hsm
  go_loopw [2, 3, 17] (fun nn u i wr => ∃ (k : Nat) (b' : Box), k ≤ ds.length ∧ i = .int .i64 k ∧ nn = .int .i64 (aw (al (ds.take k)) : Nat) ∧ OwnD wr w.heap.size u ((ds.take k).map be1) ∧ LexIn wr x b' (Lx.begin' (beR (ds.take k))) ∧ OwnR wr 0 b'.c0 (beR (ds.take k)) ∧ b.same b' ∧ Only (lfoot x b) w wr ∧ ∀ q, lfoot x b' q → lfoot x b q ∨ w.heap.size ≤ q) (fun _ _ i _ => ds.length - (intOf i).toNat)
  case atStart => exact ⟨0, b, Nat.zero_le _, rfl, rfl, ho0, HX.out.below hb2, hv.below hb2, rfl, Only.of_below hb2, fun q hq => .inl hq⟩
  case round =>
    obtain ⟨k, b', hk, rfl, rfl, ho, hL, hW, hsame, hO, hQ⟩ := hrel
    clear ho0 hb2
    have hal1 := HAL.out k
    by_cases hlt : k < ds.length
    · obtain ⟨d, hdk⟩ : ∃ d, ds[k]? = some d := ⟨ds[k], List.getElem?_eq_getElem hlt⟩
      obtain ⟨g, rfl, hD⟩ := HC.out k d hdk
      obtain ⟨y0, y1, y2, y3, y4⟩ := hD.only hO (HNF.out g rfl)
      have hds := HSM.out d (List.mem_of_getElem? hdk)
      have HB : Hid ((ds.take (k + 1)).map be1 = (ds.take k).map be1 ++ [be1 d]) := be_take ds k d hdk
      have HR1 : Hid (d.2.dead = false → beR (ds.take (k + 1)) = beR (ds.take k) ++ [Lx.row0 d.2]) := beR_hit ds k d hdk
      have HR2 : Hid (d.2.dead = true → beR (ds.take (k + 1)) = beR (ds.take k)) := beR_miss ds k d hdk
      have HA1 : Hid (d.2.dead = false → aw (al (ds.take (k + 1))) = aw (al (ds.take k)) + (d.2.doc.size + 1)) := aw_hit ds k d hdk
      have HA2 : Hid (d.2.dead = true → aw (al (ds.take (k + 1))) = aw (al (ds.take k))) := aw_miss ds k d hdk
      have hwl : (beR (ds.take k)).length ≤ 1000 := by rw [beR_len]; have := al_take ds k; omega
      have hml : ((ds.take k).map be1).length ≤ 6000 := by rw [List.length_map, List.length_take]; omega
      clear hdk hD
      obtain ⟨pt, id, doc, dd, ot⟩ := d
      simp only at *
      generalize hMe : (ds.take k).map be1 = M at *
      generalize beR (ds.take k) = R at *
      generalize aw (al (ds.take k)) = A at *
      cases dd
      · by_cases hp : pt = 2
        · subst hp
          have d0 : ((2 : Int) == 2) = true := rfl
          have HN1 := HR1.out rfl
          have HN2 := HA1.out rfl
          have hal2 : Below wr.heap.size wr (wr.alloc (.cells #[.int .i64 (id : Int), .string doc, .int .i64 1, .bool false, .bool false] 98)) := (Below.refl _ _).alloc (Nat.le_refl _) _
          have D0 : DocAt (wr.alloc (.cells #[.int .i64 (id : Int), .string doc, .int .i64 1, .bool false, .bool false] 98)) wr.heap.size (1, ⟨id, doc, false, false⟩) := heap_alloc_new wr _
          have c0 := D0.c0
          have c1 := D0.c1
          have HD0 : Hid (DocAt _ _ _) := D0
          clear D0
          have hsz : w.heap.size ≤ wr.heap.size := hO.size
          have hws : ((wr.alloc (.cells #[.int .i64 (id : Int), .string doc, .int .i64 1, .bool false, .bool false] 98))).heap.size = wr.heap.size + 1 := by simp
          have HLa : Hid (LexIn (wr.alloc (.cells #[.int .i64 (id : Int), .string doc, .int .i64 1, .bool false, .bool false] 98)) x b' (Lx.begin' R)) := hL.below hal2
          have HWa : Hid (OwnR (wr.alloc (.cells #[.int .i64 (id : Int), .string doc, .int .i64 1, .bool false, .bool false] 98)) 0 b'.c0 R) := hW.below hal2
          have HDa : Hid (OwnD (wr.alloc (.cells #[.int .i64 (id : Int), .string doc, .int .i64 1, .bool false, .bool false] 98)) w.heap.size u3 M) := World.ownsRow.alloc ho _
          have HOa : Hid (Only (lfoot x b) w (wr.alloc (.cells #[.int .i64 (id : Int), .string doc, .int .i64 1, .bool false, .bool false] 98))) := hO.trans (Only.of_below hal2)
          have HQ : Hid (∀ q, lfoot x b' q → lfoot x b q ∨ w.heap.size ≤ q) := hQ
          have HS : Hid (b.same b') := hsame
          have HLF : Hid (∀ q, lfoot x b' q → q < wr.heap.size) := by
            intro q hq
            rcases hq with rfl | hq | hq | hq
            · exact hL.box.lt
            · exact hW.lt q hq
            · exact hL.runs.lt q hq
            · exact hL.mg.lt q hq
          clear hO hL hW hQ hsame ho
          go_wp2_with fail
          generalize wr.alloc (.cells #[.int .i64 (id : Int), .string doc, .int .i64 1, .bool false, .bool false] 98) = wd at *
          refine wp_region_held_drew (S := fun w' => w'.cell? ⟨wr.heap.size, 0, none⟩ = some (.int .i64 (id : Int)) ∧ w'.cell? ⟨wr.heap.size, 1, none⟩ = some (.string doc)) (by kernel_rfl) ⟨c0, c1⟩ (fun hHeld => ?_)
          refine wpAnyH_take (i := 0) (v := ?a0) rfl (by kernel_rfl) (by kernel_rfl) (by kernel_rfl) (fun _ _ _ h => h) (Or.inl ⟨by rfl, ?hya0⟩) (by assumption) ?resta0
          case hya0 => intro w hSw; (try dsimp only at hSw); go_simp; (try with_reducible rfl)
          simp only [Act.put]
          refine wpAnyH_take (i := 1) (v := ?a1) rfl (by kernel_rfl) (by kernel_rfl) (by kernel_rfl) (fun _ _ _ h => h) (Or.inl ⟨by rfl, ?hya1⟩) (by assumption) ?resta1
          case hya1 => intro w hSw; (try dsimp only at hSw); go_simp; (try with_reducible rfl)
          simp only [Act.put]
          refine wpAnyH_take (i := 2) (v := ?a2) rfl (by kernel_rfl) (by kernel_rfl) (by kernel_rfl) (fun _ _ _ h => h) (Or.inl ⟨by rfl, ?hya2⟩) (by assumption) ?resta2
          case hya2 => intro w hSw; (try dsimp only at hSw); go_simp; (try with_reducible rfl)
          simp only [Act.put]
          refine wpAnyH_take (i := 3) (v := ?a3) rfl (by kernel_rfl) (by kernel_rfl) (by kernel_rfl) (fun _ _ _ h => h) (Or.inl ⟨by rfl, ?hya3⟩) (by assumption) ?resta3
          case hya3 => intro w hSw; (try dsimp only at hSw); go_simp; (try with_reducible rfl)
          simp only [Act.put]
          refine wpAnyH_take (i := 4) (v := ?a4) rfl (by kernel_rfl) (by kernel_rfl) (by kernel_rfl) (fun _ _ _ h => h) (Or.inl ⟨by rfl, ?hya4⟩) (by assumption) ?resta4
          case hya4 => intro w hSw; (try dsimp only at hSw); go_simp; (try with_reducible rfl)
          simp only [Act.put]
          refine wpAnyH_take (i := 5) (v := ?a5) rfl (by kernel_rfl) (by kernel_rfl) (by kernel_rfl) (fun _ _ _ h => h) (Or.inl ⟨by rfl, ?hya5⟩) (by assumption) ?resta5
          case hya5 => intro w hSw; (try dsimp only at hSw); go_simp; (try with_reducible rfl)
          simp only [Act.put]
          refine wpAnyH_take (i := 6) (v := ?a6) rfl (by kernel_rfl) (by kernel_rfl) (by kernel_rfl) (fun _ _ _ h => h) (Or.inl ⟨by rfl, ?hya6⟩) (by assumption) ?resta6
          case hya6 => intro w hSw; (try dsimp only at hSw); go_simp; (try with_reducible rfl)
          simp only [Act.put]
          refine wpAnyH_ready (rs := [7]) (by kernel_rfl) (by simp) ?_
          refine AllReadyH.cons rfl (fun K hK => ?_) AllReadyH.nil
          go_simp
          refine (lexAdd_any x b' (Lx.begin' R) id doc wd.drew (HLa.out.below (Below.refl _ _).drew) (HWa.out.below (Below.refl _ _).drew) hwl).mono ?_
          rintro e w3 ⟨rfl, b2, hL2, hW2, hs2, hO2', hQ2⟩
          have hO2 : Only (lfoot x b') wd w3 := (Only.of_below (Below.refl _ _).drew).trans hO2'
          have hD3 : DocAt w3 wr.heap.size (1, ⟨id, doc, false, false⟩) := (hO2.block _ (by omega) (fun e => by have := HLF.out _ e; omega)).trans HD0.out
          have e0 := hD3.c0
          have e1 := hD3.c1
          have e2 := hD3.c2
          have e3 := hD3.c3
          have e4 := hD3.c4
          have ho3 : OwnD w3 w.heap.size u3 M := HDa.out.only hO2 (fun q hq e => by
            rcases e with rfl | e | e | e
            · exact HDa.out.apart HLa.out.box hq
            · exact HDa.out.apartR HWa.out q hq e
            · exact HDa.out.apartR HLa.out.runs q hq e
            · exact HDa.out.apartR HLa.out.mg q hq e)
          have hs3 := hO2.size
          refine hK.out _ _ ⟨e0, e1⟩ (fun hHeld => ?_)
          clear hK K hHeld
          refine wpAnyH_done (by kernel_rfl) ?_ _
          have HL2 : Hid (LexIn w3 x b2 (Lx.begin' (R ++ [⟨id, doc, 0⟩]))) := hL2
          have HW2 : Hid (OwnR w3 0 b2.c0 (R ++ [⟨id, doc, 0⟩])) := hW2
          have HO3 : Hid (Only (lfoot x b) w w3) := HOa.out.step hO2 HQ.out
          have HQ3 : Hid (∀ q, lfoot x b2 q → lfoot x b q ∨ w.heap.size ≤ q) := fun q hq => by
            rcases hQ2 q hq with h | h
            · exact HQ.out q h
            · right; have h' : wd.heap.size ≤ q := h; omega
          have HS3 : Hid (b.same b2) := HS.out.trans hs2
          clear hL2 hW2 hs2 hO2 hO2' hQ2 c0 c1 HD0
          go_wp2_with (at_builtin; refine wpList_append_own _ rfl _ _ 59 rfl w.heap.size 98 i0 (.agg #[.int .i64 0, .string ⟨#[]⟩, .int .i64 0, .bool false, .bool false]) 5 40 Try.underlying59 hi hz0 hz1 hz2 rfl (by decide) _ _ _ rfl (World.ownsRow.alloc ho3 _) ⟨w3.heap.size, 0, none⟩ 1 1 (DD1 (1, ⟨id, doc, false, false⟩)) rfl rfl (World.news_of_block (cs := #[.int .i64 (id : Int), .string doc, .int .i64 1, .bool false, .bool false]) (heap_alloc_new w3 _)) (by intro u hu2; simp [DD1] at hu2; rcases hu2 with rfl | rfl | rfl | rfl | rfl <;> rfl) (by unfold maxLen; omega) (by omega) (by simp; omega) ?_; intro v' w4 hown4 hgrow4 _)
          have K := be_step (c := (1, ⟨id, doc, false, false⟩)) HL2.out HW2.out ho3 hown4 hgrow4
          clear hown4 hgrow4
          go_wp2
          go_roundw
          case rel => exact ⟨k + 1, b2, by omega, by go_num, by rw [HN2]; go_num, by rw [HB.out]; exact K.1, by rw [HN1]; exact K.2.1, by rw [HN1]; exact K.2.2.1, HS3.out, HO3.out.step K.2.2.2 (fun q hq => .inr ((World.ownsRow.lt ho3 q hq).1)), HQ3.out⟩
          case measure => simp [intOf]; omega
        · have d0 : ((pt : Int) == 2) = false := by rw [beq_eq_false_iff_ne]; omega
          have HB' : Hid ((ds.take (k + 1)).map be1 = M ++ [(pt, ⟨id, doc, false, false⟩)]) := by
            have := HB.out
            unfold be1 at this
            simp only [if_neg hp] at this
            exact this
          clear HB
          have HB := HB'
          have HN1 := HR1.out rfl
          have HN2 := HA1.out rfl
          have hal2 : Below wr.heap.size wr (wr.alloc (.cells #[.int .i64 (id : Int), .string doc, .int .i64 (pt : Int), .bool false, .bool false] 98)) := (Below.refl _ _).alloc (Nat.le_refl _) _
          have D0 : DocAt (wr.alloc (.cells #[.int .i64 (id : Int), .string doc, .int .i64 (pt : Int), .bool false, .bool false] 98)) wr.heap.size (pt, ⟨id, doc, false, false⟩) := heap_alloc_new wr _
          have c0 := D0.c0
          have c1 := D0.c1
          have HD0 : Hid (DocAt _ _ _) := D0
          clear D0
          have hsz : w.heap.size ≤ wr.heap.size := hO.size
          have hws : ((wr.alloc (.cells #[.int .i64 (id : Int), .string doc, .int .i64 (pt : Int), .bool false, .bool false] 98))).heap.size = wr.heap.size + 1 := by simp
          have HLa : Hid (LexIn (wr.alloc (.cells #[.int .i64 (id : Int), .string doc, .int .i64 (pt : Int), .bool false, .bool false] 98)) x b' (Lx.begin' R)) := hL.below hal2
          have HWa : Hid (OwnR (wr.alloc (.cells #[.int .i64 (id : Int), .string doc, .int .i64 (pt : Int), .bool false, .bool false] 98)) 0 b'.c0 R) := hW.below hal2
          have HDa : Hid (OwnD (wr.alloc (.cells #[.int .i64 (id : Int), .string doc, .int .i64 (pt : Int), .bool false, .bool false] 98)) w.heap.size u3 M) := World.ownsRow.alloc ho _
          have HOa : Hid (Only (lfoot x b) w (wr.alloc (.cells #[.int .i64 (id : Int), .string doc, .int .i64 (pt : Int), .bool false, .bool false] 98))) := hO.trans (Only.of_below hal2)
          have HQ : Hid (∀ q, lfoot x b' q → lfoot x b q ∨ w.heap.size ≤ q) := hQ
          have HS : Hid (b.same b') := hsame
          have HLF : Hid (∀ q, lfoot x b' q → q < wr.heap.size) := by
            intro q hq
            rcases hq with rfl | hq | hq | hq
            · exact hL.box.lt
            · exact hW.lt q hq
            · exact hL.runs.lt q hq
            · exact hL.mg.lt q hq
          clear hO hL hW hQ hsame ho
          go_wp2_with fail
          generalize wr.alloc (.cells #[.int .i64 (id : Int), .string doc, .int .i64 (pt : Int), .bool false, .bool false] 98) = wd at *
          refine wp_region_held_drew (S := fun w' => w'.cell? ⟨wr.heap.size, 0, none⟩ = some (.int .i64 (id : Int)) ∧ w'.cell? ⟨wr.heap.size, 1, none⟩ = some (.string doc)) (by kernel_rfl) ⟨c0, c1⟩ (fun hHeld => ?_)
          refine wpAnyH_take (i := 0) (v := ?b0) rfl (by kernel_rfl) (by kernel_rfl) (by kernel_rfl) (fun _ _ _ h => h) (Or.inl ⟨by rfl, ?hyb0⟩) (by assumption) ?restb0
          case hyb0 => intro w hSw; (try dsimp only at hSw); go_simp; (try with_reducible rfl)
          simp only [Act.put]
          refine wpAnyH_take (i := 1) (v := ?b1) rfl (by kernel_rfl) (by kernel_rfl) (by kernel_rfl) (fun _ _ _ h => h) (Or.inl ⟨by rfl, ?hyb1⟩) (by assumption) ?restb1
          case hyb1 => intro w hSw; (try dsimp only at hSw); go_simp; (try with_reducible rfl)
          simp only [Act.put]
          refine wpAnyH_take (i := 2) (v := ?b2) rfl (by kernel_rfl) (by kernel_rfl) (by kernel_rfl) (fun _ _ _ h => h) (Or.inl ⟨by rfl, ?hyb2⟩) (by assumption) ?restb2
          case hyb2 => intro w hSw; (try dsimp only at hSw); go_simp; (try with_reducible rfl)
          simp only [Act.put]
          refine wpAnyH_take (i := 3) (v := ?b3) rfl (by kernel_rfl) (by kernel_rfl) (by kernel_rfl) (fun _ _ _ h => h) (Or.inl ⟨by rfl, ?hyb3⟩) (by assumption) ?restb3
          case hyb3 => intro w hSw; (try dsimp only at hSw); go_simp; (try with_reducible rfl)
          simp only [Act.put]
          refine wpAnyH_take (i := 4) (v := ?b4) rfl (by kernel_rfl) (by kernel_rfl) (by kernel_rfl) (fun _ _ _ h => h) (Or.inl ⟨by rfl, ?hyb4⟩) (by assumption) ?restb4
          case hyb4 => intro w hSw; (try dsimp only at hSw); go_simp; (try with_reducible rfl)
          simp only [Act.put]
          refine wpAnyH_take (i := 5) (v := ?b5) rfl (by kernel_rfl) (by kernel_rfl) (by kernel_rfl) (fun _ _ _ h => h) (Or.inl ⟨by rfl, ?hyb5⟩) (by assumption) ?restb5
          case hyb5 => intro w hSw; (try dsimp only at hSw); go_simp; (try with_reducible rfl)
          simp only [Act.put]
          refine wpAnyH_take (i := 6) (v := ?b6) rfl (by kernel_rfl) (by kernel_rfl) (by kernel_rfl) (fun _ _ _ h => h) (Or.inl ⟨by rfl, ?hyb6⟩) (by assumption) ?restb6
          case hyb6 => intro w hSw; (try dsimp only at hSw); go_simp; (try with_reducible rfl)
          simp only [Act.put]
          refine wpAnyH_ready (rs := [7]) (by kernel_rfl) (by simp) ?_
          refine AllReadyH.cons rfl (fun K hK => ?_) AllReadyH.nil
          go_simp
          refine (lexAdd_any x b' (Lx.begin' R) id doc wd.drew (HLa.out.below (Below.refl _ _).drew) (HWa.out.below (Below.refl _ _).drew) hwl).mono ?_
          rintro e w3 ⟨rfl, b2, hL2, hW2, hs2, hO2', hQ2⟩
          have hO2 : Only (lfoot x b') wd w3 := (Only.of_below (Below.refl _ _).drew).trans hO2'
          have hD3 : DocAt w3 wr.heap.size (pt, ⟨id, doc, false, false⟩) := (hO2.block _ (by omega) (fun e => by have := HLF.out _ e; omega)).trans HD0.out
          have e0 := hD3.c0
          have e1 := hD3.c1
          have e2 := hD3.c2
          have e3 := hD3.c3
          have e4 := hD3.c4
          have ho3 : OwnD w3 w.heap.size u3 M := HDa.out.only hO2 (fun q hq e => by
            rcases e with rfl | e | e | e
            · exact HDa.out.apart HLa.out.box hq
            · exact HDa.out.apartR HWa.out q hq e
            · exact HDa.out.apartR HLa.out.runs q hq e
            · exact HDa.out.apartR HLa.out.mg q hq e)
          have hs3 := hO2.size
          refine hK.out _ _ ⟨e0, e1⟩ (fun hHeld => ?_)
          clear hK K hHeld
          refine wpAnyH_done (by kernel_rfl) ?_ _
          have HL2 : Hid (LexIn w3 x b2 (Lx.begin' (R ++ [⟨id, doc, 0⟩]))) := hL2
          have HW2 : Hid (OwnR w3 0 b2.c0 (R ++ [⟨id, doc, 0⟩])) := hW2
          have HO3 : Hid (Only (lfoot x b) w w3) := HOa.out.step hO2 HQ.out
          have HQ3 : Hid (∀ q, lfoot x b2 q → lfoot x b q ∨ w.heap.size ≤ q) := fun q hq => by
            rcases hQ2 q hq with h | h
            · exact HQ.out q h
            · right; have h' : wd.heap.size ≤ q := h; omega
          have HS3 : Hid (b.same b2) := HS.out.trans hs2
          clear hL2 hW2 hs2 hO2 hO2' hQ2 c0 c1 HD0
          go_wp2_with (at_builtin; refine wpList_append_own _ rfl _ _ 59 rfl w.heap.size 98 i0 (.agg #[.int .i64 0, .string ⟨#[]⟩, .int .i64 0, .bool false, .bool false]) 5 40 Try.underlying59 hi hz0 hz1 hz2 rfl (by decide) _ _ _ rfl (World.ownsRow.alloc ho3 _) ⟨w3.heap.size, 0, none⟩ 1 1 (DD1 (pt, ⟨id, doc, false, false⟩)) rfl rfl (World.news_of_block (cs := #[.int .i64 (id : Int), .string doc, .int .i64 (pt : Int), .bool false, .bool false]) (heap_alloc_new w3 _)) (by intro u hu2; simp [DD1] at hu2; rcases hu2 with rfl | rfl | rfl | rfl | rfl <;> rfl) (by unfold maxLen; omega) (by omega) (by simp; omega) ?_; intro v' w4 hown4 hgrow4 _)
          have K := be_step (c := (pt, ⟨id, doc, false, false⟩)) HL2.out HW2.out ho3 hown4 hgrow4
          clear hown4 hgrow4
          go_wp2
          go_roundw
          case rel => exact ⟨k + 1, b2, by omega, by go_num, by rw [HN2]; go_num, by rw [HB.out]; exact K.1, by rw [HN1]; exact K.2.1, by rw [HN1]; exact K.2.2.1, HS3.out, HO3.out.step K.2.2.2 (fun q hq => .inr ((World.ownsRow.lt ho3 q hq).1)), HQ3.out⟩
          case measure => simp [intOf]; omega
      · by_cases hp : pt = 2
        · subst hp
          have d0 : ((2 : Int) == 2) = true := rfl
          have HN1 := HR2.out rfl
          have HN2 := HA2.out rfl
          have ho2 : OwnD (wr.alloc (.cells #[.int .i64 (id : Int), .string doc, .int .i64 1, .bool true, .bool true] 98)) w.heap.size u3 M := World.ownsRow.alloc ho _
          have hal2 : Below wr.heap.size wr (wr.alloc (.cells #[.int .i64 (id : Int), .string doc, .int .i64 1, .bool true, .bool true] 98)) := (Below.refl _ _).alloc (Nat.le_refl _) _
          have hsz : w.heap.size ≤ wr.heap.size := hO.size
          have HLa : Hid (LexIn (wr.alloc (.cells #[.int .i64 (id : Int), .string doc, .int .i64 1, .bool true, .bool true] 98)) x b' (Lx.begin' R)) := hL.below hal2
          have HWa : Hid (OwnR (wr.alloc (.cells #[.int .i64 (id : Int), .string doc, .int .i64 1, .bool true, .bool true] 98)) 0 b'.c0 R) := hW.below hal2
          have HOa : Hid (Only (lfoot x b) w (wr.alloc (.cells #[.int .i64 (id : Int), .string doc, .int .i64 1, .bool true, .bool true] 98))) := hO.trans (Only.of_below hal2)
          have HQ : Hid (∀ q, lfoot x b' q → lfoot x b q ∨ w.heap.size ≤ q) := hQ
          have HS : Hid (b.same b') := hsame
          clear hO hL hW hQ hsame
          go_wp2_with (at_builtin; refine wpList_append_own _ rfl _ _ 59 rfl w.heap.size 98 i0 (.agg #[.int .i64 0, .string ⟨#[]⟩, .int .i64 0, .bool false, .bool false]) 5 40 Try.underlying59 hi hz0 hz1 hz2 rfl (by decide) _ _ _ rfl (World.ownsRow.alloc ho2 _) ⟨wr.heap.size + 1, 0, none⟩ 1 1 (DD1 (1, ⟨id, doc, true, true⟩)) rfl rfl (news_two wr _ #[.int .i64 (id : Int), .string doc, .int .i64 1, .bool true, .bool true] _) (by intro u hu2; simp [DD1] at hu2; rcases hu2 with rfl | rfl | rfl | rfl | rfl <;> rfl) (by unfold maxLen; omega) (by omega) (by simp; omega) ?_; intro v' w3 hown3 hgrow3 _)
          have K := be_step (c := (1, ⟨id, doc, true, true⟩)) HLa.out HWa.out ho2 hown3 hgrow3
          clear hown3 hgrow3
          go_wp2
          go_roundw
          case rel => exact ⟨k + 1, b', by omega, by go_num, by rw [HN2], by rw [HB.out]; exact K.1, by rw [HN1]; exact K.2.1, by rw [HN1]; exact K.2.2.1, HS.out, HOa.out.step K.2.2.2 (fun q hq => .inr ((World.ownsRow.lt ho2 q hq).1)), HQ.out⟩
          case measure => simp [intOf]; omega
        · have d0 : ((pt : Int) == 2) = false := by rw [beq_eq_false_iff_ne]; omega
          have HB' : Hid ((ds.take (k + 1)).map be1 = M ++ [(pt, ⟨id, doc, true, true⟩)]) := by
            have := HB.out
            unfold be1 at this
            simp only [if_neg hp] at this
            exact this
          clear HB
          have HB := HB'
          have HN1 := HR2.out rfl
          have HN2 := HA2.out rfl
          have ho2 : OwnD (wr.alloc (.cells #[.int .i64 (id : Int), .string doc, .int .i64 (pt : Int), .bool true, .bool true] 98)) w.heap.size u3 M := World.ownsRow.alloc ho _
          have hal2 : Below wr.heap.size wr (wr.alloc (.cells #[.int .i64 (id : Int), .string doc, .int .i64 (pt : Int), .bool true, .bool true] 98)) := (Below.refl _ _).alloc (Nat.le_refl _) _
          have hsz : w.heap.size ≤ wr.heap.size := hO.size
          have HLa : Hid (LexIn (wr.alloc (.cells #[.int .i64 (id : Int), .string doc, .int .i64 (pt : Int), .bool true, .bool true] 98)) x b' (Lx.begin' R)) := hL.below hal2
          have HWa : Hid (OwnR (wr.alloc (.cells #[.int .i64 (id : Int), .string doc, .int .i64 (pt : Int), .bool true, .bool true] 98)) 0 b'.c0 R) := hW.below hal2
          have HOa : Hid (Only (lfoot x b) w (wr.alloc (.cells #[.int .i64 (id : Int), .string doc, .int .i64 (pt : Int), .bool true, .bool true] 98))) := hO.trans (Only.of_below hal2)
          have HQ : Hid (∀ q, lfoot x b' q → lfoot x b q ∨ w.heap.size ≤ q) := hQ
          have HS : Hid (b.same b') := hsame
          clear hO hL hW hQ hsame
          go_wp2_with (at_builtin; refine wpList_append_own _ rfl _ _ 59 rfl w.heap.size 98 i0 (.agg #[.int .i64 0, .string ⟨#[]⟩, .int .i64 0, .bool false, .bool false]) 5 40 Try.underlying59 hi hz0 hz1 hz2 rfl (by decide) _ _ _ rfl (World.ownsRow.alloc ho2 _) ⟨wr.heap.size + 1, 0, none⟩ 1 1 (DD1 (pt, ⟨id, doc, true, true⟩)) rfl rfl (news_two wr _ #[.int .i64 (id : Int), .string doc, .int .i64 (pt : Int), .bool true, .bool true] _) (by intro u hu2; simp [DD1] at hu2; rcases hu2 with rfl | rfl | rfl | rfl | rfl <;> rfl) (by unfold maxLen; omega) (by omega) (by simp; omega) ?_; intro v' w3 hown3 hgrow3 _)
          have K := be_step (c := (pt, ⟨id, doc, true, true⟩)) HLa.out HWa.out ho2 hown3 hgrow3
          clear hown3 hgrow3
          go_wp2
          go_roundw
          case rel => exact ⟨k + 1, b', by omega, by go_num, by rw [HN2], by rw [HB.out]; exact K.1, by rw [HN1]; exact K.2.1, by rw [HN1]; exact K.2.2.1, HS.out, HOa.out.step K.2.2.2 (fun q hq => .inr ((World.ownsRow.lt ho2 q hq).1)), HQ.out⟩
          case measure => simp [intOf]; omega
    · have hke : k = ds.length := by omega
      subst hke
      rw [List.take_of_length_le (Nat.le_refl _)] at ho hL hW hal1
      have HAW : Hid (al (ds.take ds.length) = al ds) := al_all ds
      rw [List.take_of_length_le (Nat.le_refl _)]
      obtain ⟨au, capu, eu, _⟩ := ho.any
      rw [show (ds.map be1).length = ds.length by simp] at eu
      subst eu
      have hlo : ∀ q, (Value.slice au ds.length capu).ownBlock = some q → w.heap.size ≤ q := fun q hq => (World.ownsRow.lt ho q hq).1
      have g4 := hL.box.g4
      have f4 := hL.box.free 4
      have R1 := hL.box.s4 (.slice au ds.length capu)
      obtain ⟨A, hA⟩ : ∃ A, aw (al ds) = A := ⟨_, rfl⟩
      rw [hA] at hal1 ⊢
      have HBT : Hid (∀ w, Calls Try.prog 97 #[.int .i64 (A : Int)] w fun e w' => e = .returned (.int .i64 (Pa.bits A : Nat)) ∧ Below w.heap.size w w') := fun w => bits_any A w (by omega)
      have hbl := bits_le A (by omega)
      have HUN : Hid (((A : Int) + 1) * ((Pa.bits A : Int) + 3) = ((Pa.units A : Nat) : Int)) := by show _ = _; unfold Pa.units; simp
      have hub : Pa.units A ≤ 40000 := by
        unfold Pa.units
        exact Nat.le_trans (Nat.mul_le_mul (show A + 1 ≤ 2461 by omega) (show Pa.bits A + 3 ≤ 16 by omega)) (by decide)
      have HUP : Hid (∀ w, Calls Try.prog 98 #[.int .i64 ((Pa.units A : Nat) : Int), .int .i64 ((bf / 2 : Nat) : Int)] w fun e w' => e = .returned (.int .i64 (Pa.speedOf bf (Pa.units A) : Nat)) ∧ Below w.heap.size w w') := fun w => upwards_any (Pa.units A) bf w (by omega) hbf
      have hwm : IntKind.i64.wrap (((A : Int) + 1) * ((Pa.bits A : Int) + 3)) = ((Pa.units A : Nat) : Int) := by rw [HUN.out, IntKind.wrap_i64]; omega
      have HR1 : Hid (BoxAt _ _ _) := R1
      clear R1
      go_wp2_with fail
      refine (HBT.out _).mono ?_
      rintro e w1 ⟨rfl, hb1⟩
      have R1' := HR1.out.below hb1
      have g20 := R1'.g20
      have f20 := R1'.free 20
      have R2 := R1'.s20 (.int .i64 ((Pa.units A : Nat) : Int))
      have j20 := R2.g20
      have j3 := R2.g3
      have HS3 : Hid (b'.buf = .int .i64 (bf : Int)) := by show _ = _; rw [hsame]; exact H3.out
      simp only [HS3.out] at j3
      have j21 := R2.g21
      have f21 := R2.free 21
      have HR2 : Hid (BoxAt (w1.setCell ⟨x, 20, none⟩ (.int .i64 ((Pa.units A : Nat) : Int))) x _) := R2
      clear R1' R2
      have hq2 : (bf : Int).tdiv 2 = ((bf / 2 : Nat) : Int) := rfl
      have hq3 : bf / 2 ≤ 40 := by omega
      generalize bf / 2 = b2 at *
      have hwb : IntKind.i64.wrap (b2 : Int) = (b2 : Int) := by rw [IntKind.wrap_i64]; omega
      have HO0 : Hid (Only (fun k => k = x) wr (w1.setCell ⟨x, 20, none⟩ (.int .i64 ((Pa.units A : Nat) : Int)))) := Only.trans (Only.trans (Only.setCell (F := fun k => k = x) _ _ rfl) (Only.of_below hb1)) (Only.setCell _ _ rfl)
      go_wp2_with fail
      generalize w1.setCell ⟨x, 20, none⟩ (.int .i64 ((Pa.units A : Nat) : Int)) = w2 at *
      refine wp_region_held_drew (S := fun w' => w'.cell? ⟨x, 20, none⟩ = some (.int .i64 ((Pa.units A : Nat) : Int)) ∧ w'.cell? ⟨x, 3, none⟩ = some (.int .i64 (bf : Int))) (by kernel_rfl) ⟨j20, j3⟩ (fun hHeld => ?_)
      refine wpAnyH_take (i := 0) (v := ?u0) rfl (by kernel_rfl) (by kernel_rfl) (by kernel_rfl) (fun _ _ _ h => h) (Or.inl ⟨by rfl, ?hyu0⟩) (by assumption) ?restu0
      case hyu0 => intro w hSw; (try dsimp only at hSw); go_simp; (try with_reducible rfl)
      simp only [Act.put]
      refine wpAnyH_take (i := 1) (v := ?u1) rfl (by kernel_rfl) (by kernel_rfl) (by kernel_rfl) (fun _ _ _ h => h) (Or.inl ⟨by rfl, ?hyu1⟩) (by assumption) ?restu1
      case hyu1 => intro w hSw; (try dsimp only at hSw); go_simp; (try with_reducible rfl)
      simp only [Act.put]
      refine wpAnyH_take (i := 2) (v := ?u2) rfl (by kernel_rfl) (by kernel_rfl) (by kernel_rfl) (fun _ _ _ h => h) (Or.inl ⟨by rfl, ?hyu2⟩) (by assumption) ?restu2
      case hyu2 => intro w hSw; (try dsimp only at hSw); go_simp; (try with_reducible rfl)
      simp only [Act.put]
      refine wpAnyH_take (i := 3) (v := ?u3) rfl (by kernel_rfl) (by kernel_rfl) (by kernel_rfl) (fun _ _ _ h => h) (Or.inl ⟨by rfl, ?hyu3⟩) (by assumption) ?restu3
      case hyu3 => intro w hSw; (try dsimp only at hSw); go_simp; (try with_reducible rfl)
      simp only [Act.put]
      refine wpAnyH_take (i := 4) (v := ?u4) rfl (by kernel_rfl) (by kernel_rfl) (by kernel_rfl) (fun _ _ _ h => h) (Or.inl ⟨by rfl, ?hyu4⟩) (by assumption) ?restu4
      case hyu4 => intro w hSw; (try dsimp only at hSw); go_simp; (try with_reducible rfl)
      simp only [Act.put]
      refine wpAnyH_take (i := 5) (v := ?u5) rfl (by kernel_rfl) (by kernel_rfl) (by kernel_rfl) (fun _ _ _ h => h) (Or.inl ⟨by rfl, ?hyu5⟩) (by assumption) ?restu5
      case hyu5 => intro w hSw; (try dsimp only at hSw); go_simp; (try with_reducible rfl)
      simp only [Act.put]
      refine wpAnyH_take (i := 6) (v := ?u6) rfl (by kernel_rfl) (by kernel_rfl) (by kernel_rfl) (fun _ _ _ h => h) (Or.inl ⟨by rfl, ?hyu6⟩) (by assumption) ?restu6
      case hyu6 => intro w hSw; (try dsimp only at hSw); go_simp; (try with_reducible rfl)
      simp only [Act.put]
      refine wpAnyH_take (i := 7) (v := ?u7) rfl (by kernel_rfl) (by kernel_rfl) (by kernel_rfl) (fun _ _ _ h => h) (Or.inl ⟨by rfl, ?hyu7⟩) (by assumption) ?restu7
      case hyu7 => intro w hSw; (try dsimp only at hSw); go_simp; (try with_reducible rfl)
      simp only [Act.put]
      refine wpAnyH_take (i := 8) (v := ?u8) rfl (by kernel_rfl) (by kernel_rfl) (by kernel_rfl) (fun _ _ _ h => h) (Or.inl ⟨by rfl, ?hyu8⟩) (by assumption) ?restu8
      case hyu8 => intro w hSw; (try dsimp only at hSw); go_simp; (try with_reducible rfl)
      simp only [Act.put]
      refine wpAnyH_take (i := 9) (v := ?u9) rfl (by kernel_rfl) (by kernel_rfl) (by kernel_rfl) (fun _ _ _ h => h) (Or.inl ⟨by rfl, ?hyu9⟩) (by assumption) ?restu9
      case hyu9 => intro w hSw; (try dsimp only at hSw); go_simp; (try with_reducible rfl)
      simp only [Act.put]
      refine wpAnyH_ready (rs := [10]) (by kernel_rfl) (by simp) ?_
      refine AllReadyH.cons rfl (fun K hK => ?_) AllReadyH.nil
      go_simp
      refine (HUP.out _).mono ?_
      rintro e w3 ⟨rfl, hb3'⟩
      have hb3 : Below w2.heap.size w2 w3 := (Below.refl _ _).drew.trans hb3'
      have R3 := HR2.out.below hb3
      have l20 := cell_later hb3 j20
      have l3 := cell_later hb3 j3
      refine hK.out _ _ ⟨l20, l3⟩ (fun hHeld => ?_)
      clear hK K hb3'
      have l21 := R3.g21
      have lf21 := R3.free 21
      have R4 := R3.s21 (.int .i64 ((Pa.speedOf bf (Pa.units A) : Nat) : Int))
      have m20 := R4.g20
      have m3 : (w3.setCell ⟨x, 21, none⟩ (.int .i64 ((Pa.speedOf bf (Pa.units A) : Nat) : Int))).cell? ⟨x, 3, none⟩ = some (.int .i64 (bf : Int)) := by rw [World.cell?_setCell_other _ _ _ _ (by simp)]; exact l3
      have HR4 : Hid (BoxAt (w3.setCell ⟨x, 21, none⟩ (.int .i64 ((Pa.speedOf bf (Pa.units A) : Nat) : Int))) x _) := R4
      have HOF : Hid (Only (fun k => k = x) wr (w3.setCell ⟨x, 21, none⟩ (.int .i64 ((Pa.speedOf bf (Pa.units A) : Nat) : Int)))) := (HO0.out.trans (Only.of_below hb3)).trans (Only.setCell _ _ rfl)
      clear R3 R4
      refine wpAnyH_take (i := 11) (v := ?v11) rfl (by kernel_rfl) (by kernel_rfl) (by kernel_rfl) (fun _ _ _ h => h) (Or.inl ⟨by rfl, ?hyv11⟩) (by assumption) ?restv11
      case hyv11 => intro w hSw; (try dsimp only at hSw); go_simp; (try with_reducible rfl)
      simp only [Act.put]
      refine wpAnyH_take (i := 12) (v := ?v12) rfl (by kernel_rfl) (by kernel_rfl) (by kernel_rfl) (fun _ _ _ h => h) (Or.inl ⟨by rfl, ?hyv12⟩) (by assumption) ?restv12
      case hyv12 => intro w hSw; (try dsimp only at hSw); go_simp; (try with_reducible rfl)
      simp only [Act.put]
      refine wpAnyH_ready (rs := [13]) (by kernel_rfl) (by simp) ?_
      refine AllReadyH.cons rfl (fun K hK => ?_) AllReadyH.nil
      go_simp
      refine hK.out _ _ ⟨m20, m3⟩ (fun hHeld => ?_)
      clear hK K hHeld
      refine wpAnyH_done (by kernel_rfl) ?_ _
      go_wp2
      go_end0
      refine ⟨rfl, { b' with docs := .slice au ds.length capu, left := .int .i64 ((Pa.units A : Nat) : Int), speed := .int .i64 ((Pa.speedOf bf (Pa.units A) : Nat) : Int) }, ?_, .slice au ds.length capu, ?_, ?_, ?_, hW.only HOF.out (fun q hq e => by subst e; exact hW.apart hL.box hq), hlo, hQ⟩
      · exact LexIn.rebox hL HOF.out HR4.out rfl rfl rfl rfl rfl rfl hL.wid hL.st hL.lf hL.rg
      · exact (ho.weaken (Nat.zero_le _)).only HOF.out (fun q hq e => by subst e; exact ho.apart hL.box hq)
      · conv => lhs; rw [hsame]
      · exact hO.step HOF.out (fun q hq => .inl (.inl hq))

end Go.Proofs.Ythkndfkkgncjfab

namespace Go.Proofs.Ythkndfkkgncjfab
open Go.RowKit
set_option maxRecDepth 100000

/-- the lexicon that is being built -/
def coming (p : Pa.Pt) : Lx.Lex := if p.left = 0 then Lx.empty else Lx.work (p.speed * p.since) (Lx.begin' ((Pa.next p.main ++ p.frozen).map Lx.row0))
/-- the shelf -/
structure SIn (w : World) (x : Nat) (b : Box) (bf : Nat) (p : Pa.Pt) : Prop where
  docs : OwnD w 0 b.docs (tag p)
  buf : b.buf = .int .i64 (bf : Int)
  left : b.left = .int .i64 (p.left : Int)
  speed : b.speed = .int .i64 (p.speed : Int)
  hand : b.hand = .int .i64 (p.hand : Int)
  main : ∃ lm, OwnR w 0 b.m1 lm ∧ lm.Perm (Lx.rows p.main) ∧ Lx.Sorted lm
  lex : LexIn w x b (coming p)
  fresh : p.left = 0 → OwnR w 0 b.c0 []
  ad : ap b.docs b.c0
  am : ap b.m1 b.c0 ∧ ap b.m1 b.c1 ∧ ap b.m1 b.c3
def sfoot (x : Nat) (b : Box) (k : Nat) : Prop := b.docs.ownBlock = some k ∨ b.m1.ownBlock = some k ∨ lfoot x b k

/-- a row that is no part of the lexicon stays apart from it -/
theorem ap_after {w : World} {x : Nat} {b b' : Box} {v : Value} (hQ : ∀ k, lfoot x b' k → lfoot x b k ∨ w.heap.size ≤ k) (hv : ∀ q, v.ownBlock = some q → q < w.heap.size ∧ ¬ lfoot x b q) : ap v b'.c0 ∧ ap v b'.c1 ∧ ap v b'.c3 := by
  have key : ∀ q, v.ownBlock = some q → ¬ lfoot x b' q := fun q hq hf => by
    obtain ⟨h1, h2⟩ := hv q hq
    rcases hQ q hf with h | h
    · exact h2 h
    · omega
  exact ⟨fun q hq e => key q hq (.inr (.inl e)), fun q hq e => key q hq (.inr (.inr (.inl e))), fun q hq e => key q hq (.inr (.inr (.inr e)))⟩
theorem SIn.docs_out {w : World} {x : Nat} {b : Box} {bf : Nat} {p : Pa.Pt} (h : SIn w x b bf p) : ∀ q, b.docs.ownBlock = some q → q < w.heap.size ∧ ¬ lfoot x b q := fun q hq => by
  refine ⟨h.docs.lt q hq, fun hf => ?_⟩
  rcases hf with rfl | hf | hf | hf
  · exact h.docs.apart h.lex.box hq
  · exact h.ad q hq hf
  · exact h.docs.apartR h.lex.runs q hq hf
  · exact h.docs.apartR h.lex.mg q hq hf
theorem SIn.main_out {w : World} {x : Nat} {b : Box} {bf : Nat} {p : Pa.Pt} (h : SIn w x b bf p) : ∀ q, b.m1.ownBlock = some q → q < w.heap.size ∧ ¬ lfoot x b q := fun q hq => by
  obtain ⟨lm, h1, _⟩ := h.main
  refine ⟨h1.lt q hq, fun hf => ?_⟩
  rcases hf with rfl | hf | hf | hf
  · exact h1.apart h.lex.box hq
  · exact h.am.1 q hq hf
  · exact h.am.2.1 q hq hf
  · exact h.am.2.2 q hq hf

/-- the rows of what is handed over are whole behind all units -/
theorem coming_ready {p : Pa.Pt} (u : Nat) (hu : Pa.units (Pa.wt (Pa.next p.main) + Pa.wt p.frozen) ≤ u) : Lx.Ready (Lx.rows (Pa.next p.main ++ p.frozen)) (Lx.work u (Lx.begin' ((Pa.next p.main ++ p.frozen).map Lx.row0))) := by
  have hl : (Lx.all ((Pa.next p.main ++ p.frozen).map Lx.row0)).length = Pa.wt (Pa.next p.main) + Pa.wt p.frozen := by
    have := Lx.rows_len (Pa.next p.main ++ p.frozen)
    rw [Pa.wt_append] at this
    exact this
  generalize hn : Pa.wt (Pa.next p.main) + Pa.wt p.frozen = n at *
  refine Lx.work_ready _ (fun r hr => ?_) (Pa.bits n) ?_ u ?_
  · rw [List.mem_map] at hr
    obtain ⟨g, _, rfl⟩ := hr
    exact Nat.zero_le _
  · rw [hl]
    unfold Pa.bits
    by_cases h0 : n = 0
    · rw [if_pos h0, h0]; decide
    · rw [if_neg h0]
      exact Nat.le_of_lt Nat.lt_log2_self
  · rw [hl]
    refine Nat.le_trans ?_ hu
    unfold Pa.units
    exact Nat.mul_le_mul (by omega) (by omega)
theorem coming_sound {p : Pa.Pt} {N : Nat} (v : Nat) (hw : Pa.wt (Pa.next p.main) + Pa.wt p.frozen ≤ 2460) (hs : ∀ g ∈ p.docs, g.doc.size ≤ 40) (hi : ∀ g ∈ p.docs, g.id < N) (hN : N ≤ 9000000000000000) : Sound (Lx.work v (Lx.begin' ((Pa.next p.main ++ p.frozen).map Lx.row0))) := by
  have hl : (Lx.all ((Pa.next p.main ++ p.frozen).map Lx.row0)).length = Pa.wt (Pa.next p.main) + Pa.wt p.frozen := by
    have := Lx.rows_len (Pa.next p.main ++ p.frozen)
    rw [Pa.wt_append] at this
    exact this
  have hm : ∀ g ∈ Pa.next p.main ++ p.frozen, g ∈ p.docs := fun g hg => by
    unfold Pa.Pt.docs
    rw [List.mem_append] at hg
    rcases hg with hg | hg
    · have := (List.mem_filter.1 hg).1; simp [this]
    · simp [hg]
  refine sound_begin _ (fun r hr => ?_) (by rw [hl]; omega) (fun r hr => ?_) v
  · rw [List.mem_map] at hr
    obtain ⟨g, _, rfl⟩ := hr
    exact Nat.zero_le _
  · rw [List.mem_map] at hr
    obtain ⟨g, hg, rfl⟩ := hr
    refine ⟨hs g (hm g hg), ?_⟩
    have := hi g (hm g hg)
    show g.id ≤ _
    omega

end Go.Proofs.Ythkndfkkgncjfab

namespace Go.Proofs.Ythkndfkkgncjfab
open Go.RowKit
set_option maxRecDepth 100000

/-- the rest of the index is as it was -/
def Box.kin (b b' : Box) : Prop := b'.cap = b.cap ∧ b'.buf0 = b.buf0 ∧ b'.page = b.page ∧ b'.next = b.next ∧ b'.ver = b.ver
theorem Box.kin.refl (b : Box) : b.kin b := ⟨rfl, rfl, rfl, rfl, rfl⟩
theorem Box.kin.trans {a b c : Box} (h : a.kin b) (k : b.kin c) : a.kin c := ⟨k.1.trans h.1, k.2.1.trans h.2.1, k.2.2.1.trans h.2.2.1, k.2.2.2.1.trans h.2.2.2.1, k.2.2.2.2.trans h.2.2.2.2⟩

theorem aw_take (l : List Pa.Pg) : ∀ k, k ≤ l.length → Do.size ((l.take k).map Pa.chg) + k = Pa.wt (l.take k) := by
  intro k hk
  induction k with
  | zero => rfl
  | succ k ih =>
    have hk' : k < l.length := hk
    rw [List.take_succ_eq_append_getElem hk', List.map_append, Pa.wt_append, ← ih (by omega)]
    show Do.size ((l.take k).map Pa.chg ++ [Pa.chg l[k]]) + (k + 1) = _ + (l[k].w + 0)
    rw [Do.sizes_append]
    show _ + l[k].doc.size + (k + 1) = _ + (l[k].doc.size + 1 + 0)
    omega
theorem aw_wt (l : List Pa.Pg) : aw (l.map Pa.chg) = Pa.wt l := by
  have := aw_take l l.length (Nat.le_refl _)
  rw [List.take_of_length_le (Nat.le_refl _)] at this
  unfold aw
  rw [List.length_map]; exact this
theorem beR_tag (p : Pa.Pt) : beR (tag p) = (Pa.alive p.docs).map Lx.row0 := by
  rw [← tag_snd]
  unfold beR Pa.alive
  rw [List.filter_map, List.map_map]
  rfl

/-- a rebuild begins, or does not -/
theorem begun_walk (x : Nat) (b : Box) (bf : Nat) (p : Pa.Pt) (w : World) (hbf : bf ≤ 80) (h : SIn w x b bf p) (h0 : p.left = 0) (hf : p.frozen = []) (hlv : ∀ g ∈ p.live, g.dead = false ∧ g.out = false) (hsm : ∀ g ∈ p.docs, g.doc.size ≤ 40) (hal : (Pa.alive p.docs).length ≤ 60) (hl : p.docs.length ≤ 6000) (hd : Pa.due bf p) :
    Calls Try.prog 74 #[.pointer (some ⟨x, 3, none⟩)] w fun e w' => e = .returned (.tuple #[]) ∧ ∃ b', SIn w' x b' bf (Pa.begun bf p) ∧ b.kin b' ∧ Only (sfoot x b) w w' ∧ ∀ k, sfoot x b' k → sfoot x b k ∨ w.heap.size ≤ k := by
  have hlx := h.lex
  unfold coming at hlx
  rw [if_pos h0] at hlx
  have hB := begin_any x b (tag p) bf w (by rw [tag_len]; exact hl) (fun d hd => hsm d.2 (tag_mem p d hd).1) (by rw [al_tag, List.length_map]; exact hal) hbf hlx (h.fresh h0) h.docs h.buf
  refine hB.mono ?_
  rintro e w' ⟨he, b', v, hL, hD, heq, hO, hW, hv, hQ⟩
  have hbeg : Pa.begun bf p = Pa.begin' bf p := by unfold Pa.begun; rw [if_pos ⟨h0, hd⟩]
  have halv : Pa.alive p.live = p.live := Pa.alive_id _ fun g hg => (hlv g hg).1
  have hun : aw (al (tag p)) = Pa.wt (Pa.alive p.main) + Pa.wt (Pa.alive p.live) := by
    rw [al_tag, aw_wt]
    unfold Pa.Pt.docs
    rw [hf, List.append_nil, Pa.alive_append, Pa.wt_append]
  have hleft : (Pa.begin' bf p).left ≠ 0 := by
    have := Pa.units_pos (Pa.wt (Pa.alive p.main) + Pa.wt (Pa.alive p.live))
    show Pa.units _ ≠ 0
    omega
  refine ⟨he, b', ?_, ?_, ?_, ?_⟩
  · rw [hbeg]
    obtain ⟨lm, m1, m2, m3⟩ := h.main
    have hm1 : b'.m1 = b.m1 := by rw [heq]
    have hdv : b'.docs = v := by rw [heq]
    have hap := ap_after hQ h.main_out
    refine ⟨?_, ?_, ?_, ?_, ?_, ⟨lm, ?_, ?_, m3⟩, ?_, fun hh => absurd hh hleft, ?_, ?_⟩
    · rw [hdv, ← beD_tag bf p hf hlv]; exact hD
    · rw [heq]; exact h.buf
    · rw [heq, hun]; rfl
    · rw [heq, hun]; rfl
    · rw [heq]; exact h.hand
    · rw [hm1]; exact m1.only hO (fun q hq => (h.main_out q hq).2)
    · have : Lx.rows (Pa.begin' bf p).main = Lx.rows p.main := by
        show Lx.all ((Pa.mark p.main).map Lx.row0) = Lx.all (p.main.map Lx.row0)
        rw [Lx.rows_mark]
      rw [this]; exact m2
    · unfold coming
      rw [if_neg hleft]
      have e1 : (Pa.next (Pa.begin' bf p).main ++ (Pa.begin' bf p).frozen).map Lx.row0 = beR (tag p) := by
        show (Pa.next (Pa.mark p.main) ++ p.live).map Lx.row0 = _
        rw [Pa.mark_next, List.map_append, Lx.rows_mark, beR_tag]
        unfold Pa.Pt.docs
        rw [hf, List.append_nil, Pa.alive_append, halv, List.map_append]
      rw [e1]
      show LexIn w' x b' (Lx.work (_ * 0) _)
      rw [Nat.mul_zero]
      exact hL
    · intro q hq hc
      rw [hdv] at hq
      exact hD.apartR hW q hq hc
    · rw [hm1]; exact hap
  · exact ⟨by rw [heq], by rw [heq], by rw [heq], by rw [heq], by rw [heq]⟩
  · exact hO.mono (fun k hk => .inr (.inr hk))
  · intro k hk
    rcases hk with hk | hk | hk
    · rw [show b'.docs = v by rw [heq]] at hk
      exact .inr (hv k hk)
    · rw [show b'.m1 = b.m1 by rw [heq]] at hk
      exact .inl (.inr (.inl hk))
    · rcases hQ k hk with h | h
      · exact .inl (.inr (.inr h))
      · exact .inr h

end Go.Proofs.Ythkndfkkgncjfab

namespace Go.Proofs.Ythkndfkkgncjfab
open Go.RowKit
set_option maxRecDepth 100000

/-- the shelf while a rebuild is on, so many units done; whatever LEFT's cell holds -/
structure SOn (w : World) (x : Nat) (b : Box) (bf : Nat) (p : Pa.Pt) (u : Nat) : Prop where
  docs : OwnD w 0 b.docs (tag p)
  buf : b.buf = .int .i64 (bf : Int)
  speed : b.speed = .int .i64 (p.speed : Int)
  hand : b.hand = .int .i64 (p.hand : Int)
  main : ∃ lm, OwnR w 0 b.m1 lm ∧ lm.Perm (Lx.rows p.main) ∧ Lx.Sorted lm
  lex : LexIn w x b (Lx.work u (Lx.begin' ((Pa.next p.main ++ p.frozen).map Lx.row0)))
  ad : ap b.docs b.c0
  am : ap b.m1 b.c0 ∧ ap b.m1 b.c1 ∧ ap b.m1 b.c3

theorem ap_none (v : Value) : ap v (.slice none 0 0) := fun _ _ e => by cases e
theorem LexIn.empty {w : World} {x : Nat} {b : Box} (h : BoxAt w x b) (h0 : b.c0 = .slice none 0 0) (h1 : b.c1 = .slice none 0 0) (h2 : b.c2 = .int .i64 0) (h3 : b.c3 = .slice none 0 0) (h4 : b.c4 = .int .i64 0) (h5 : b.c5 = .int .i64 0) (h6 : b.c6 = .int .i64 0) : LexIn w x b Lx.empty :=
  ⟨h, by rw [h0]; exact .inl ⟨rfl, none, 0, rfl, fun a ha => by cases ha⟩, by rw [h1]; exact OwnR.nil _ _, h2, by rw [h3]; exact OwnR.nil _ _, h4, h5, h6, by rw [h1]; exact ap_none _, by rw [h3]; exact ap_none _, by rw [h3]; exact ap_none _⟩

theorem handed_walk (x : Nat) (b : Box) (bf : Nat) (p : Pa.Pt) (u : Nat) (w : World) (h : SOn w x b bf p u) (hu : Pa.units (Pa.wt (Pa.next p.main) + Pa.wt p.frozen) ≤ u) (hfr : ∀ g ∈ p.frozen, g.out = false) (hlv : ∀ g ∈ p.live, g.out = false) (hl : p.docs.length ≤ 6000) (hh : p.hand ≤ 9000000000000000) :
    Calls Try.prog 72 #[.pointer (some ⟨x, 3, none⟩)] w fun e w' => e = .returned (.tuple #[]) ∧ ∃ b', SIn w' x b' bf (Pa.handOver p) ∧ b.kin b' ∧ Only (sfoot x b) w w' ∧ ∀ k, sfoot x b' k → sfoot x b k ∨ w.heap.size ≤ k := by
  obtain ⟨r1, r2, r3, _⟩ := coming_ready (p := p) u hu
  obtain ⟨a0, c0, e0⟩ := h.lex.wait.shape
  obtain ⟨a1, c1, e1, _⟩ := h.lex.runs.any
  obtain ⟨a3, c3, e3, _⟩ := h.lex.mg.any
  have hone : b.c0.oneCell' = true ∧ b.c1.oneCell' = true ∧ b.c2.oneCell' = true ∧ b.c3.oneCell' = true ∧ b.c4.oneCell' = true ∧ b.c5.oneCell' = true ∧ b.c6.oneCell' = true := by
    rw [e0, e1, e3, h.lex.wid, h.lex.st, h.lex.lf, h.lex.rg]
    exact ⟨rfl, rfl, rfl, rfl, rfl, rfl, rfl⟩
  refine (handOver_any x b (tag p) p.hand w (by rw [tag_len]; exact hl) h.lex.box h.docs h.hand hh hone).mono ?_
  rintro e w' ⟨he, v, hD, hB, hO, hv⟩
  refine ⟨he, { b with docs := v, m0 := b.c0, m1 := b.c1, m2 := b.c2, m3 := b.c3, m4 := b.c4, m5 := b.c5, m6 := b.c6, c0 := .slice none 0 0, c1 := .slice none 0 0, c2 := .int .i64 0, c3 := .slice none 0 0, c4 := .int .i64 0, c5 := .int .i64 0, c6 := .int .i64 0, left := .int .i64 0, hand := .int .i64 ((p.hand : Int) + 1) }, ?_, ⟨rfl, rfl, rfl, rfl, rfl⟩, hO.mono (fun k hk => .inr (.inr (.inl hk))), ?_⟩
  · refine ⟨?_, h.buf, rfl, h.speed, rfl, ⟨_, ?_, r2, r3⟩, ?_, fun _ => OwnR.nil _ _, ap_none _, ap_none _, ap_none _, ap_none _⟩
    · rw [← hoD_tag p hfr hlv]; exact hD
    · exact h.lex.runs.only hO (fun q hq e => by subst e; exact h.lex.runs.apart h.lex.box hq)
    · unfold coming
      rw [if_pos (show (Pa.handOver p).left = 0 from rfl)]
      exact LexIn.empty hB rfl rfl rfl rfl rfl rfl rfl
  · intro k hk
    rcases hk with hk | hk | hk | hk | hk | hk
    · exact .inr (hv k hk)
    · exact .inl (.inr (.inr (.inr (.inr (.inl hk)))))
    · exact .inl (.inr (.inr (.inl hk)))
    · cases hk
    · cases hk
    · cases hk

end Go.Proofs.Ythkndfkkgncjfab

namespace Go.Proofs.Ythkndfkkgncjfab
open Go.RowKit
set_option maxRecDepth 100000

theorem SIn.below {w w' : World} {x : Nat} {b : Box} {bf : Nat} {p : Pa.Pt} (h : SIn w x b bf p) (hb : Below w.heap.size w w') : SIn w' x b bf p := by
  obtain ⟨lm, m1, m2, m3⟩ := h.main
  exact ⟨h.docs.below hb, h.buf, h.left, h.speed, h.hand, ⟨lm, m1.below hb, m2, m3⟩, h.lex.below hb, fun h0 => (h.fresh h0).below hb, h.ad, h.am⟩
/-- the units of a change are done -/
theorem worked_walk (x : Nat) (b : Box) (bf : Nat) (p : Pa.Pt) (u k N : Nat) (w : World) (h : SOn w x b bf p u) (hw : Pa.wt (Pa.next p.main) + Pa.wt p.frozen ≤ 2460) (hs : ∀ g ∈ p.docs, g.doc.size ≤ 40) (hi : ∀ g ∈ p.docs, g.id < N) (hN : N ≤ 9000000000000000) (hk : k ≤ 1000000000000000000) :
    Calls Try.prog 71 #[.pointer (some ⟨x, 13, none⟩), .int .i64 (k : Int)] w fun e w' => e = .returned (.tuple #[]) ∧ ∃ b', SOn w' x b' bf p (u + k) ∧ b.kin b' ∧ b'.left = b.left ∧ Only (sfoot x b) w w' ∧ ∀ q, sfoot x b' q → sfoot x b q ∨ w.heap.size ≤ q := by
  have hD : ∀ q, b.docs.ownBlock = some q → q < w.heap.size ∧ ¬ lfoot x b q := fun q hq => by
    refine ⟨h.docs.lt q hq, fun hf => ?_⟩
    rcases hf with rfl | hf | hf | hf
    · exact h.docs.apart h.lex.box hq
    · exact h.ad q hq hf
    · exact h.docs.apartR h.lex.runs q hq hf
    · exact h.docs.apartR h.lex.mg q hq hf
  obtain ⟨lm, m1, m2, m3⟩ := h.main
  have hM : ∀ q, b.m1.ownBlock = some q → q < w.heap.size ∧ ¬ lfoot x b q := fun q hq => by
    refine ⟨m1.lt q hq, fun hf => ?_⟩
    rcases hf with rfl | hf | hf | hf
    · exact m1.apart h.lex.box hq
    · exact h.am.1 q hq hf
    · exact h.am.2.1 q hq hf
    · exact h.am.2.2 q hq hf
  refine (work_any x b _ k w h.lex (coming_sound u hw hs hi hN) hk).mono ?_
  rintro e w' ⟨he, b', hL, hsame, hO, hQ⟩
  have e1 : b'.docs = b.docs := by rw [hsame]
  have e2 : b'.m1 = b.m1 := by rw [hsame]
  have apD := ap_after hQ hD
  have apM := ap_after hQ hM
  refine ⟨he, b', ⟨?_, ?_, ?_, ?_, ⟨lm, ?_, m2, m3⟩, ?_, ?_, ?_⟩, ⟨by rw [hsame], by rw [hsame], by rw [hsame], by rw [hsame], by rw [hsame]⟩, by rw [hsame], hO.mono (fun q hq => .inr (.inr hq)), ?_⟩
  · rw [e1]; exact h.docs.only hO (fun q hq => (hD q hq).2)
  · rw [hsame]; exact h.buf
  · rw [hsame]; exact h.speed
  · rw [hsame]; exact h.hand
  · rw [e2]; exact m1.only hO (fun q hq => (hM q hq).2)
  · rw [Lx.work_add]; exact hL
  · rw [e1]; exact apD.1
  · rw [e2]; exact apM
  · intro q hq
    rcases hq with hq | hq | hq
    · rw [e1] at hq; exact .inl (.inl hq)
    · rw [e2] at hq; exact .inl (.inr (.inl hq))
    · exact (hQ q hq).imp (fun h => .inr (.inr h)) (fun h => h)

set_option maxHeartbeats 1000000 in
theorem work_off (x : Nat) (b : Box) (bf : Nat) (p : Pa.Pt) (k : Nat) (w : World) (hbf : bf ≤ 80) (h : SIn w x b bf p) (h0 : p.left = 0) (hf : p.frozen = []) (hlv : ∀ g ∈ p.live, g.dead = false ∧ g.out = false) (hsm : ∀ g ∈ p.docs, g.doc.size ≤ 40) (hal : (Pa.alive p.docs).length ≤ 60) (hl : p.docs.length ≤ 6000) :
    Calls Try.prog 43 #[.pointer (some ⟨x, 3, none⟩), .int .i64 (k : Int)] w fun e w' => e = .returned (.tuple #[]) ∧ ∃ b', SIn w' x b' bf (Pa.begun bf p) ∧ b.kin b' ∧ Only (sfoot x b) w w' ∧ ∀ q, sfoot x b' q → sfoot x b q ∨ w.heap.size ≤ q := by
  have g20 := h.lex.box.g20
  rw [h.left, h0] at g20
  have HD := due_any x b 0 (tag p) p.left (p.hand : Int) bf w (by rw [tag_len]; exact hl) (fun d hd => hsm d.2 (tag_mem p d hd).1) (fun d hd => (tag_mem p d hd).2) h.lex.box h.docs h.left h.hand h.buf
  obtain ⟨wt0, _, wt2⟩ := W_tag p
  rw [wt0, wt2, Wd_tag] at HD
  by_cases hd : Pa.due bf p
  · have hdd : decide (bf ≤ Pa.wt p.live ∨ Pa.wt p.main < 2 * Pa.wt (Pa.dead p.main)) = true := by rw [decide_eq_true_eq]; exact hd
    rw [hdd] at HD
    go_enter Try.func43, Try.ntmps43
    go_wp2_with fail
    refine HD.mono ?_
    rintro e w1 ⟨rfl, hb1⟩
    have HBW := begun_walk x b bf p w1 hbf (h.below hb1) h0 hf hlv hsm hal hl hd
    go_wp2_with fail
    refine HBW.mono ?_
    rintro e w2 ⟨rfl, b2, hS, hk, hO, hQ⟩
    go_wp2
    go_end0
    exact ⟨rfl, b2, hS, hk, (Only.of_below hb1).trans hO, fun q hq => (hQ q hq).imp (fun h => h) (fun h => Nat.le_trans hb1.size h)⟩
  · have hdd : decide (bf ≤ Pa.wt p.live ∨ Pa.wt p.main < 2 * Pa.wt (Pa.dead p.main)) = false := by rw [decide_eq_false_iff_not]; exact hd
    rw [hdd] at HD
    have hbg : Pa.begun bf p = p := by unfold Pa.begun; rw [if_neg (fun h => hd h.2)]
    rw [hbg]
    go_enter Try.func43, Try.ntmps43
    go_wp2_with fail
    refine HD.mono ?_
    rintro e w1 ⟨rfl, hb1⟩
    go_wp2_with fail
    go_end0
    exact ⟨rfl, b, h.below hb1, Box.kin.refl b, Only.of_below hb1, fun q hq => .inl hq⟩

end Go.Proofs.Ythkndfkkgncjfab

namespace Go.Proofs.Ythkndfkkgncjfab
open Go.RowKit
set_option maxRecDepth 100000

theorem SOn.set20 {w : World} {x : Nat} {b : Box} {bf : Nat} {p : Pa.Pt} {u : Nat} (h : SOn w x b bf p u) (v : Value) : SOn (w.setCell ⟨x, 20, none⟩ v) x { b with left := v } bf p u := by
  obtain ⟨lm, m1, m2, m3⟩ := h.main
  have hO : Only (fun k => k = x) w (w.setCell ⟨x, 20, none⟩ v) := Only.setCell _ _ rfl
  exact ⟨h.docs.only hO (fun q hq e => by subst e; exact h.docs.apart h.lex.box hq), h.buf, h.speed, h.hand, ⟨lm, m1.only hO (fun q hq e => by subst e; exact m1.apart h.lex.box hq), m2, m3⟩, LexIn.rebox h.lex hO (h.lex.box.s20 v) rfl rfl rfl rfl rfl rfl h.lex.wid h.lex.st h.lex.lf h.lex.rg, h.ad, h.am⟩
theorem SOn.of {w : World} {x : Nat} {b : Box} {bf : Nat} {p : Pa.Pt} (h : SIn w x b bf p) (h0 : 0 < p.left) : SOn w x b bf p (p.speed * p.since) := by
  have hl := h.lex
  unfold coming at hl
  rw [if_neg (by omega)] at hl
  exact ⟨h.docs, h.buf, h.speed, h.hand, h.main, hl, h.ad, h.am⟩

set_option maxHeartbeats 1000000 in
theorem work_less (x : Nat) (b : Box) (bf : Nat) (p : Pa.Pt) (k N : Nat) (w : World) (h : SIn w x b bf p) (h0 : p.speed * k < p.left) (hsp : p.speed * k ≤ 1000000000) (hlb : p.left ≤ 1000000000) (hw : Pa.wt (Pa.next p.main) + Pa.wt p.frozen ≤ 2460) (hs : ∀ g ∈ p.docs, g.doc.size ≤ 40) (hi : ∀ g ∈ p.docs, g.id < N) (hN : N ≤ 9000000000000000) :
    Calls Try.prog 43 #[.pointer (some ⟨x, 3, none⟩), .int .i64 (k : Int)] w fun e w' => e = .returned (.tuple #[]) ∧ ∃ b', SIn w' x b' bf (Pa.begun bf (Pa.worked p k)) ∧ b.kin b' ∧ Only (sfoot x b) w w' ∧ ∀ q, sfoot x b' q → sfoot x b q ∨ w.heap.size ≤ q := by
  have g20 := h.lex.box.g20
  have g21 := h.lex.box.g21
  rw [h.left] at g20
  rw [h.speed] at g21
  have hbg : Pa.begun bf (Pa.worked p k) = { p with left := p.left - p.speed * k, since := p.since + k } := by
    unfold Pa.worked
    rw [if_pos (by omega), if_neg (by omega)]
    unfold Pa.begun
    rw [if_neg (fun h => by have h' : p.left - p.speed * k = 0 := h.1; omega)]
  have HW : Hid (Calls Try.prog 71 #[.pointer (some ⟨x, 13, none⟩), .int .i64 ((p.speed * k : Nat) : Int)] w _) := worked_walk x b bf p _ (p.speed * k) N w (SOn.of h (by omega)) hw hs hi hN (by omega)
  rw [hbg]
  have d1 : decide ((0 : Int) < (p.left : Int)) = true := by rw [decide_eq_true_eq]; omega
  obtain ⟨U, hU⟩ : ∃ U, p.speed * k = U := ⟨_, rfl⟩
  have hm : IntKind.i64.wrap ((p.speed : Int) * (k : Int)) = (U : Int) := by
    rw [← hU, IntKind.wrap_i64]
    have : (p.speed : Int) * (k : Int) = ((p.speed * k : Nat) : Int) := by simp
    rw [this]; omega
  have hm2 : (p.speed : Int) * (k : Int) = (U : Int) := by rw [← hU]; simp
  rw [hU] at HW h0 hsp ⊢
  have HL : Hid (b.left = .int .i64 (p.left : Int)) := h.left
  go_enter Try.func43, Try.ntmps43
  go_wp2_with fail
  refine HW.out.mono ?_
  rintro e w1 ⟨rfl, b1, hS1, hk1, hl1, hO1, hQ1⟩
  obtain ⟨D, hD⟩ : ∃ D, p.left - U = D := ⟨_, rfl⟩
  have HDe : Hid (p.left - U = D) := hD
  have hsub : (p.left : Int) - (U : Int) = (D : Int) := by omega
  have hwr : IntKind.i64.wrap ((p.left : Int) - (U : Int)) = (D : Int) := by rw [hsub, IntKind.wrap_i64]; omega
  have hDp : 0 < D := by omega
  have j20 := hS1.lex.box.g20
  rw [hl1, HL.out] at j20
  have f20 := hS1.lex.box.free 20
  have S2 := hS1.set20 (.int .i64 (D : Int))
  have l20 := S2.lex.box.g20
  have HS2 : Hid (SOn _ _ _ _ _ _) := S2
  have d2 : decide ((D : Int) ≤ 0) = false := by rw [decide_eq_false_iff_not]; omega
  have d3 : ((D : Int) == 0) = false := by rw [beq_eq_false_iff_ne]; omega
  clear S2
  go_wp2_with fail
  go_end0
  have S3 := HS2.out
  refine ⟨rfl, { b1 with left := .int .i64 (D : Int) }, ⟨S3.docs, S3.buf, ?_, S3.speed, S3.hand, S3.main, ?_, ?_, S3.ad, S3.am⟩, hk1, hO1.trans (Only.setCell _ _ (.inr (.inr (.inl rfl)))), hQ1⟩
  · show Value.int _ _ = Value.int _ ((p.left - U : Nat) : Int)
    rw [HDe.out]
  · unfold coming
    rw [if_neg (by show ¬ p.left - U = 0; omega)]
    have e : p.speed * p.since + U = p.speed * (p.since + k) := by rw [Nat.mul_add, hU]
    have hl := S3.lex
    rw [e] at hl
    exact hl
  · intro hh
    have hh' : p.left - U = 0 := hh
    omega

end Go.Proofs.Ythkndfkkgncjfab

namespace Go.Proofs.Ythkndfkkgncjfab
open Go.RowKit
set_option maxRecDepth 100000

set_option maxHeartbeats 1000000 in
theorem work_over (x : Nat) (b : Box) (bf : Nat) (p : Pa.Pt) (k N : Nat) (w : World) (hbf : bf ≤ 80) (h : SIn w x b bf p) (hlp : 0 < p.left) (h0 : p.left ≤ p.speed * k) (hsp : p.speed * k ≤ 1000000000) (hw : Pa.wt (Pa.next p.main) + Pa.wt p.frozen ≤ 2460) (hun : p.left + p.speed * p.since = Pa.units (Pa.wt (Pa.next p.main) + Pa.wt p.frozen)) (hs : ∀ g ∈ p.docs, g.doc.size ≤ 40) (hi : ∀ g ∈ p.docs, g.id < N) (hN : N ≤ 9000000000000000)
    (hfr : ∀ g ∈ p.frozen, g.out = false) (hlv : ∀ g ∈ p.live, g.dead = false ∧ g.out = false) (hl : p.docs.length ≤ 6000) (hh : p.hand ≤ 9000000000000000) (hal : (Pa.alive (Pa.handOver p).docs).length ≤ 60) (hs2 : ∀ g ∈ (Pa.handOver p).docs, g.doc.size ≤ 40) (hl2 : (Pa.handOver p).docs.length ≤ 6000) :
    Calls Try.prog 43 #[.pointer (some ⟨x, 3, none⟩), .int .i64 (k : Int)] w fun e w' => e = .returned (.tuple #[]) ∧ ∃ b', SIn w' x b' bf (Pa.begun bf (Pa.worked p k)) ∧ b.kin b' ∧ Only (sfoot x b) w w' ∧ ∀ q, sfoot x b' q → sfoot x b q ∨ w.heap.size ≤ q := by
  have g20 := h.lex.box.g20
  have g21 := h.lex.box.g21
  rw [h.left] at g20
  rw [h.speed] at g21
  have hwk : Pa.worked p k = Pa.handOver p := by
    unfold Pa.worked
    rw [if_pos hlp, if_pos h0]
  have HW : Hid (Calls Try.prog 71 #[.pointer (some ⟨x, 13, none⟩), .int .i64 ((p.speed * k : Nat) : Int)] w _) := worked_walk x b bf p _ (p.speed * k) N w (SOn.of h hlp) hw hs hi hN (by omega)
  rw [hwk]
  have d1 : decide ((0 : Int) < (p.left : Int)) = true := by rw [decide_eq_true_eq]; omega
  obtain ⟨U, hU⟩ : ∃ U, p.speed * k = U := ⟨_, rfl⟩
  have hm : IntKind.i64.wrap ((p.speed : Int) * (k : Int)) = (U : Int) := by
    rw [← hU, IntKind.wrap_i64]
    have : (p.speed : Int) * (k : Int) = ((p.speed * k : Nat) : Int) := by simp
    rw [this]; omega
  have hm2 : (p.speed : Int) * (k : Int) = (U : Int) := by rw [← hU]; simp
  rw [hU] at HW h0 hsp
  have HL : Hid (b.left = .int .i64 (p.left : Int)) := h.left
  go_enter Try.func43, Try.ntmps43
  go_wp2_with fail
  refine HW.out.mono ?_
  rintro e w1 ⟨rfl, b1, hS1, hk1, hl1, hO1, hQ1⟩
  have hwr : IntKind.i64.wrap ((p.left : Int) - (U : Int)) = (p.left : Int) - (U : Int) := by rw [IntKind.wrap_i64]; omega
  have j20 := hS1.lex.box.g20
  rw [hl1, HL.out] at j20
  have f20 := hS1.lex.box.free 20
  have S2 := hS1.set20 (.int .i64 ((p.left : Int) - (U : Int)))
  have l20 := S2.lex.box.g20
  have HS2 : Hid (SOn (w1.setCell ⟨x, 20, none⟩ (.int .i64 ((p.left : Int) - (U : Int)))) x _ bf p _) := S2
  have d2 : decide ((p.left : Int) - (U : Int) ≤ 0) = true := by rw [decide_eq_true_eq]; omega
  have d2' : decide ((p.left : Int) ≤ (U : Int)) = true := by rw [decide_eq_true_eq]; omega
  have d2'' : decide (p.left ≤ U) = true := by rw [decide_eq_true_eq]; omega
  have HHW := handed_walk x _ bf p _ _ HS2.out (by rw [← hun]; omega) hfr (fun g hg => (hlv g hg).2) hl hh
  clear S2
  go_wp2_with fail
  refine HHW.mono ?_
  rintro e w2 ⟨rfl, b2, hS, hk2, hO2, hQ2⟩
  have m20 := hS.lex.box.g20
  rw [hS.left] at m20
  have HD := due_any x b2 0 (tag (Pa.handOver p)) (Pa.handOver p).left ((Pa.handOver p).hand : Int) bf w2 (by rw [tag_len]; exact hl2) (fun d hd => hs2 d.2 (tag_mem _ d hd).1) (fun d hd => (tag_mem _ d hd).2) hS.lex.box hS.docs hS.left hS.hand hS.buf
  obtain ⟨wt0, _, wt2⟩ := W_tag (Pa.handOver p)
  rw [wt0, wt2, Wd_tag] at HD
  have hl0 : (Pa.handOver p).left = 0 := rfl
  rw [hl0] at m20
  have hOw : Only (sfoot x b) w w2 := (hO1.trans (Only.setCell _ _ (.inr (.inr (.inl rfl))))).step hO2 (fun q hq => hQ1 q hq)
  have hQw : ∀ q, sfoot x b2 q → sfoot x b q ∨ w.heap.size ≤ q := fun q hq => by
    rcases hQ2 q hq with h | h
    · exact hQ1 q h
    · right; have := hO1.size; simp at h; omega
  have hkw : b.kin b2 := hk1.trans (Box.kin.trans (b := { b1 with left := .int .i64 ((p.left : Int) - (U : Int)) }) ⟨rfl, rfl, rfl, rfl, rfl⟩ hk2)
  by_cases hd : Pa.due bf (Pa.handOver p)
  · have hdd : decide (bf ≤ Pa.wt (Pa.handOver p).live ∨ Pa.wt (Pa.handOver p).main < 2 * Pa.wt (Pa.dead (Pa.handOver p).main)) = true := by rw [decide_eq_true_eq]; exact hd
    rw [hdd] at HD
    go_wp2_with fail
    refine HD.mono ?_
    rintro e w3 ⟨rfl, hb3⟩
    have HBW := begun_walk x b2 bf (Pa.handOver p) w3 hbf (hS.below hb3) rfl rfl hlv hs2 hal hl2 hd
    go_wp2_with fail
    refine HBW.mono ?_
    rintro e w4 ⟨rfl, b4, hS4, hk4, hO4, hQ4⟩
    go_wp2
    go_end0
    refine ⟨rfl, b4, hS4, hkw.trans hk4, (hOw.trans (Only.of_below hb3)).step hO4 hQw, fun q hq => ?_⟩
    rcases hQ4 q hq with h | h
    · exact hQw q h
    · right; have := hOw.size; have := hb3.size; omega
  · have hdd : decide (bf ≤ Pa.wt (Pa.handOver p).live ∨ Pa.wt (Pa.handOver p).main < 2 * Pa.wt (Pa.dead (Pa.handOver p).main)) = false := by rw [decide_eq_false_iff_not]; exact hd
    rw [hdd] at HD
    have HBG : Hid (Pa.begun bf (Pa.handOver p) = Pa.handOver p) := by show _ = _; unfold Pa.begun; rw [if_neg (fun h => hd h.2)]
    go_wp2_with fail
    refine HD.mono ?_
    rintro e w3 ⟨rfl, hb3⟩
    go_wp2_with fail
    go_end0
    exact ⟨rfl, b2, by rw [HBG.out]; exact hS.below hb3, hkw, hOw.trans (Only.of_below hb3), hQw⟩

end Go.Proofs.Ythkndfkkgncjfab

namespace Go.Proofs.Ythkndfkkgncjfab
open Go.RowKit
set_option maxRecDepth 100000

theorem units_le (n : Nat) (h : n ≤ 2460) : Pa.units n ≤ 40000 := by
  have hb := bits_le n (by omega)
  unfold Pa.units
  exact Nat.le_trans (Nat.mul_le_mul (show n + 1 ≤ 2461 by omega) (show Pa.bits n + 3 ≤ 16 by omega)) (by decide)
theorem speed_le (bf k : Nat) : Pa.speedOf bf k ≤ k + 1 := by
  unfold Pa.speedOf
  have h1 := Pa.half_pos bf
  have : (k + Pa.half bf - 1) / Pa.half bf ≤ (k + 1) := by
    rw [Nat.div_le_iff_le_mul_add_pred h1]
    have : k + 1 ≤ Pa.half bf * (k + 1) := Nat.le_mul_of_pos_left _ h1
    omega
  exact this
theorem hand_sub (p : Pa.Pt) : (Pa.handOver p).docs.Sublist p.docs := by
  have hd : (Pa.handOver p).docs = Pa.next p.main ++ p.frozen ++ p.live := by unfold Pa.handOver Pa.Pt.docs; simp
  rw [hd]
  exact ((List.filter_sublist).append (List.Sublist.refl _)).append (List.Sublist.refl _)
theorem came_len {bf : Nat} {cs : List Do.Chg} {N k : Nat} {p : Pa.Pt} (hbf : bf ≤ 80) (hk : k ≤ 41) (hc : Pa.Came bf cs N k p) : p.docs.length ≤ 6000 := by
  have h1 := Pa.wt_len p.docs
  have h2 : Pa.wt p.docs = Pa.wt p.main + Pa.wt p.frozen + Pa.wt p.live := by unfold Pa.Pt.docs; rw [Pa.wt_append, Pa.wt_append]
  have hh : Pa.half bf ≤ 40 := by unfold Pa.half; omega
  rcases Nat.eq_zero_or_pos p.left with h0 | h0
  · obtain ⟨o1, _, _, o4⟩ := hc.off h0
    rw [o1] at h2
    have : Pa.wt [] = 0 := rfl
    omega
  · obtain ⟨o0, _, _, o3, o4, _⟩ := hc.on h0
    omega

/-- work, behind any change -/
theorem work_is (x : Nat) (b : Box) (bf : Nat) (p : Pa.Pt) (k N : Nat) (cs : List Do.Chg) (w : World) (hbf : bf ≤ 80) (h : SIn w x b bf p) (hc : Pa.Came bf cs N k p) (hk : k ≤ 41) (hth : (Do.there cs).length ≤ 60) (hN : N ≤ 9000000000000000) (hh : p.hand ≤ 9000000000000000) :
    Calls Try.prog 43 #[.pointer (some ⟨x, 3, none⟩), .int .i64 (k : Int)] w fun e w' => e = .returned (.tuple #[]) ∧ ∃ b', SIn w' x b' bf (Pa.begun bf (Pa.worked p k)) ∧ b.kin b' ∧ Only (sfoot x b) w w' ∧ ∀ q, sfoot x b' q → sfoot x b q ∨ w.heap.size ≤ q := by
  have hl := came_len hbf hk hc
  have hal : (Pa.alive p.docs).length ≤ 60 := by
    have := congrArg List.length hc.there
    rw [List.length_map] at this
    omega
  rcases Nat.eq_zero_or_pos p.left with h0 | h0
  · have hwk : Pa.worked p k = p := by unfold Pa.worked; rw [if_neg (by omega)]
    rw [hwk]
    exact work_off x b bf p k w hbf h h0 (hc.off h0).1 hc.live hc.small hal hl
  · obtain ⟨_, o1, o2, _, _, o5⟩ := hc.on h0
    have hu := units_le _ o5
    have hsp := speed_le bf (Pa.units (Pa.wt (Pa.next p.main) + Pa.wt p.frozen))
    rw [← o2] at hsp
    have hsk : p.speed * k ≤ 40001 * 41 := Nat.mul_le_mul (by omega) hk
    by_cases h1 : p.speed * k < p.left
    · exact work_less x b bf p k N w h h1 (by omega) (by omega) o5 hc.small hc.ids hN
    · have hsub := hand_sub p
      exact work_over x b bf p k N w hbf h h0 (by omega) (by omega) o5 o1 hc.small hc.ids hN hc.frozen hc.live hl hh (Nat.le_trans (hsub.filter _).length_le hal) (fun g hg => hc.small g (hsub.subset hg)) (Nat.le_trans hsub.length_le hl)

end Go.Proofs.Ythkndfkkgncjfab

namespace Go.Proofs.Ythkndfkkgncjfab
open Go.RowKit
set_option maxRecDepth 100000

/-- a cell of the box that is none of the shelf's is written -/
theorem SIn.rebox {w w' : World} {x : Nat} {b b' : Box} {bf : Nat} {p : Pa.Pt} (h : SIn w x b bf p) (ho : Only (fun k => k = x) w w') (hb : BoxAt w' x b') (e : b'.docs = b.docs ∧ b'.buf = b.buf ∧ b'.left = b.left ∧ b'.speed = b.speed ∧ b'.hand = b.hand ∧ b'.m1 = b.m1 ∧ b'.c0 = b.c0 ∧ b'.c1 = b.c1 ∧ b'.c2 = b.c2 ∧ b'.c3 = b.c3 ∧ b'.c4 = b.c4 ∧ b'.c5 = b.c5 ∧ b'.c6 = b.c6) : SIn w' x b' bf p := by
  obtain ⟨e0, e1, e2, e3, e4, e5, c0, c1, c2, c3, c4, c5, c6⟩ := e
  obtain ⟨lm, m1, m2, m3⟩ := h.main
  refine ⟨?_, by rw [e1]; exact h.buf, by rw [e2]; exact h.left, by rw [e3]; exact h.speed, by rw [e4]; exact h.hand, ⟨lm, ?_, m2, m3⟩, ?_, fun h0 => ?_, by rw [e0, c0]; exact h.ad, by rw [e5, c0, c1, c3]; exact h.am⟩
  · rw [e0]; exact h.docs.only ho (fun q hq e => by subst e; exact h.docs.apart h.lex.box hq)
  · rw [e5]; exact m1.only ho (fun q hq e => by subst e; exact m1.apart h.lex.box hq)
  · exact LexIn.rebox h.lex ho hb c0 c1 c3 rfl rfl rfl (by rw [c2]; exact h.lex.wid) (by rw [c4]; exact h.lex.st) (by rw [c5]; exact h.lex.lf) (by rw [c6]; exact h.lex.rg)
  · rw [c0]; have := h.fresh h0; exact this.only ho (fun q hq e => by subst e; exact this.apart h.lex.box hq)

/-- one document more is laid -/
theorem SIn.add {w w3 : World} {x g' cap' : Nat} {b : Box} {bf : Nat} {p : Pa.Pt} {s : ByteArray} {N : Nat} {o : Obj} (h : SIn w x b bf p) (h1 : w3.ownsRow 0 98 5 (.slice (some ⟨g', 0, none⟩) ((tag p).length + 1) cap') ((tag p).length + 1) (DD (tag p) ++ DD1 (2, ⟨N, s, false, false⟩)))
    (h2 : (w.alloc o).grownBy w3 b.docs.ownBlock) (h3 : b.docs.ownBlock = some g' ∨ g' = w.heap.size + 1) :
    BoxAt w3 x b ∧ SIn (w3.setCell ⟨x, 4, none⟩ (.slice (some ⟨g', 0, none⟩) ((tag p).length + 1) cap')) x { b with docs := .slice (some ⟨g', 0, none⟩) ((tag p).length + 1) cap' } bf (Pa.came p ⟨true, s, N⟩) ∧
    Only (sfoot x b) w (w3.setCell ⟨x, 4, none⟩ (.slice (some ⟨g', 0, none⟩) ((tag p).length + 1) cap')) ∧ ∀ k, sfoot x { b with docs := .slice (some ⟨g', 0, none⟩) ((tag p).length + 1) cap' } k → sfoot x b k ∨ w.heap.size ≤ k := by
  have ho := grown_only' h2
  have hout := h.docs_out
  have hb := h.lex.box.only ho (h.docs.apart h.lex.box)
  obtain ⟨lm, m1, m2, m3⟩ := h.main
  have hO2 : Only (fun k => k = x) w3 (w3.setCell ⟨x, 4, none⟩ (.slice (some ⟨g', 0, none⟩) ((tag p).length + 1) cap')) := Only.setCell _ _ rfl
  have nD : ∀ q, lfoot x b q → ¬ b.docs.ownBlock = some q := fun q hq e => (hout q e).2 hq
  have nM : ∀ q, b.m1.ownBlock = some q → ¬ b.docs.ownBlock = some q := fun q hq e => h.docs.apartR m1 q e hq
  have hL3 : LexIn w3 x b (coming p) := ⟨hb, h.lex.wait.only ho (fun q hq => nD q (.inr (.inl hq))), h.lex.runs.only ho (fun q hq => nD q (.inr (.inr (.inl hq)))), h.lex.wid, h.lex.mg.only ho (fun q hq => nD q (.inr (.inr (.inr hq)))), h.lex.st, h.lex.lf, h.lex.rg, h.lex.a1, h.lex.a2, h.lex.a3⟩
  have hD3 : OwnD w3 0 (.slice (some ⟨g', 0, none⟩) ((tag p).length + 1) cap') (tag (Pa.came p ⟨true, s, N⟩)) := by
    rw [tag_ins]
    unfold OwnD
    rw [DD_append, List.length_append]
    have : DD [(2, (⟨N, s, false, false⟩ : Pa.Pg))] = DD1 (2, ⟨N, s, false, false⟩) := by simp [DD]
    rw [this]; exact h1
  have m13 := m1.only ho nM
  refine ⟨hb, ⟨?_, h.buf, h.left, h.speed, h.hand, ⟨lm, ?_, m2, m3⟩, ?_, fun h0 => ?_, ?_, h.am⟩, ?_, ?_⟩
  · exact hD3.only hO2 (fun q hq e => by subst e; exact hD3.apart hb hq)
  · exact m13.only hO2 (fun q hq e => by subst e; exact m13.apart hb hq)
  · exact LexIn.rebox hL3 hO2 (hb.s4 _) rfl rfl rfl rfl rfl rfl h.lex.wid h.lex.st h.lex.lf h.lex.rg
  · have hf := (h.fresh h0).only ho (fun q hq => nD q (.inr (.inl hq)))
    exact hf.only hO2 (fun q hq e => by subst e; exact hf.apart hb hq)
  · intro q hq e
    simp only [Value.ownBlock, Option.some.injEq] at hq
    rcases h3 with h3 | h3
    · exact h.ad q (by rw [h3, hq]) e
    · have := h.lex.wait.lt q e; omega
  · exact (ho.mono (fun k hk => .inl hk)).trans (hO2.mono (fun k hk => .inr (.inr (.inl hk))))
  · intro k hk
    rcases hk with hk | hk | hk
    · simp only [Value.ownBlock, Option.some.injEq] at hk
      rcases h3 with h3 | h3
      · exact .inl (.inl (by rw [h3, hk]))
      · right; omega
    · exact .inl (.inr (.inl hk))
    · exact .inl (.inr (.inr hk))

set_option maxHeartbeats 1000000 in
theorem sAdd_any (x : Nat) (b : Box) (bf : Nat) (p : Pa.Pt) (N : Nat) (cs : List Do.Chg) (s : ByteArray) (w : World) (hbf : bf ≤ 80) (h : SIn w x b bf p) (hI : Pa.Inv bf cs N p) (hth : (Do.there cs).length < 60) (hs : s.size ≤ 40) (hnx : b.next = .int .i64 (N : Int)) (hN : N ≤ 8000000000000000) (hh : p.hand ≤ 9000000000000000) :
    Calls Try.prog 30 #[.pointer (some ⟨x, 3, none⟩), .string s] w fun e w' => e = .returned (.int .i64 (N : Int)) ∧ ∃ b', SIn w' x b' bf (Pa.change bf p ⟨true, s, N⟩) ∧ ({ b with next := .int .i64 ((N : Int) + 1) } : Box).kin b' ∧ Only (sfoot x b) w w' ∧ ∀ q, sfoot x b' q → sfoot x b q ∨ w.heap.size ≤ q := by
  obtain ⟨i0, hi, hz0, hz1, hz2⟩ := info_parts Try.info98
  have g4 := h.lex.box.g4
  have g5 := h.lex.box.g5
  rw [hnx] at g5
  have hC := hI.came_ins hbf (by omega) s hs
  have hlen : (tag p).length ≤ 6000 := by
    rw [tag_len]
    have h1 := Pa.wt_len p.docs
    have h2 := hI.all_wt hbf (by omega)
    omega
  have HDo := h.docs
  go_enter Try.func30, Try.ntmps30
  go_wp2_with (at_builtin; refine wpList_append_lies _ rfl _ _ 59 rfl 0 98 i0 (.agg #[.int .i64 0, .string ⟨#[]⟩, .int .i64 0, .bool false, .bool false]) 5 40 Try.underlying59 hi hz0 hz1 hz2 rfl (by decide) _ _ _ rfl (World.ownsRow.alloc HDo _) ⟨w.heap.size, 0, none⟩ 1 1 (DD1 (2, ⟨N, s, false, false⟩)) rfl rfl (World.news_of_block (cs := #[.int .i64 (N : Int), .string s, .int .i64 2, .bool false, .bool false]) (heap_alloc_new w _)) (by intro u hu2; simp [DD1] at hu2; rcases hu2 with rfl | rfl | rfl | rfl <;> rfl) (by decide) (by unfold maxLen; omega) (by omega) (Nat.zero_le _) (w.heap.size + 1) (by simp) ?_; intro g' cap' w3 hown3 hgrow3 hat3 hlt3; have R := SIn.add (s := s) (N := N) h hown3 hgrow3 hat3; have c33 := R.1.g4; have f33 := R.1.free 4; have c44 := R.2.1.lex.box.g5; have f44 := R.2.1.lex.box.free 5)
  have S5 := SIn.rebox R.2.1 (Only.setCell (F := fun k => k = x) ⟨x, 5, none⟩ (.int .i64 ((N : Int) + 1)) rfl) (R.2.1.lex.box.s5 (.int .i64 ((N : Int) + 1))) ⟨rfl, rfl, rfl, rfl, rfl, rfl, rfl, rfl, rfl, rfl, rfl, rfl, rfl⟩
  have HW := work_is x _ bf _ (s.size + 1) (N + 1) _ _ hbf S5 hC (by omega) (by rw [Do.there_ins _ _ rfl]; simp; omega) (by omega) hh
  rw [show (((s.size + 1 : Nat)) : Int) = (s.size : Int) + 1 from rfl] at HW
  refine HW.mono ?_
  rintro e w4 ⟨rfl, b4, hS4, hk4, hO4, hQ4⟩
  have hOw : Only (sfoot x b) w ((w3.setCell ⟨x, 4, none⟩ (.slice (some ⟨g', 0, none⟩) ((tag p).length + 1) cap')).setCell ⟨x, 5, none⟩ (.int .i64 ((N : Int) + 1))) := R.2.2.1.trans (Only.setCell _ _ (.inr (.inr (.inl rfl))))
  go_wp2_with fail
  go_ret
  refine ⟨rfl, b4, hS4, hk4, hOw.step hO4 (fun q hq => R.2.2.2 q hq), fun q hq => ?_⟩
  rcases hQ4 q hq with h | h
  · exact R.2.2.2 q h
  · right; have := hOw.size; omega

end Go.Proofs.Ythkndfkkgncjfab

namespace Go.Proofs.Ythkndfkkgncjfab
open Go.RowKit
set_option maxRecDepth 100000

theorem reD_succ (id : Int) (ds : List Dc) (k : Nat) (d : Dc) (h : ds[k]? = some d) : reD id (ds.take (k + 1)) = reD id (ds.take k) ++ (if (!((re1 id d).1 == 2) || !(re1 id d).2.dead) = true then [re1 id d] else []) := by
  obtain ⟨h1, h2⟩ := List.getElem?_eq_some_iff.1 h
  unfold reD
  rw [List.take_succ_eq_append_getElem h1, h2, List.map_append, List.filter_append]
  congr 1
  rw [List.map_cons, List.map_nil, List.filter_cons]
  rfl
theorem reD_len (id : Int) (ds : List Dc) (k : Nat) : (reD id (ds.take k)).length ≤ k := by
  unfold reD
  refine Nat.le_trans (List.length_filter_le _ _) ?_
  rw [List.length_map, List.length_take]; omega
/-- the documents are replaced by a row of their own -/
theorem SIn.swap {w wr : World} {x : Nat} {b : Box} {bf : Nat} {p p' : Pa.Pt} {v : Value} (h : SIn w x b bf p) (hb : Below w.heap.size w wr) (hv : OwnD wr w.heap.size v (tag p')) (hm : Lx.rows p'.main = Lx.rows p.main) (hc : coming p' = coming p) (hl : p'.left = p.left) (hs : p'.speed = p.speed) (hh : p'.hand = p.hand) :
    SIn (wr.setCell ⟨x, 4, none⟩ v) x { b with docs := v } bf p' ∧ Only (sfoot x b) w (wr.setCell ⟨x, 4, none⟩ v) ∧ ∀ k, sfoot x { b with docs := v } k → sfoot x b k ∨ w.heap.size ≤ k := by
  have hb' := h.below hb
  have hO2 : Only (fun k => k = x) wr (wr.setCell ⟨x, 4, none⟩ v) := Only.setCell _ _ rfl
  obtain ⟨lm, m1, m2, m3⟩ := hb'.main
  have hD := hv.weaken (Nat.zero_le _)
  refine ⟨⟨?_, h.buf, by rw [hl]; exact h.left, by rw [hs]; exact h.speed, by rw [hh]; exact h.hand, ⟨lm, ?_, by rw [hm]; exact m2, m3⟩, ?_, fun h0 => ?_, ?_, h.am⟩, ?_, ?_⟩
  · exact hD.only hO2 (fun q hq e => by subst e; exact hD.apart hb'.lex.box hq)
  · exact m1.only hO2 (fun q hq e => by subst e; exact m1.apart hb'.lex.box hq)
  · rw [hc]; exact LexIn.rebox hb'.lex hO2 (hb'.lex.box.s4 _) rfl rfl rfl rfl rfl rfl h.lex.wid h.lex.st h.lex.lf h.lex.rg
  · have hf := hb'.fresh (by rw [← hl]; exact h0)
    exact hf.only hO2 (fun q hq e => by subst e; exact hf.apart hb'.lex.box hq)
  · intro q hq e
    have h1 := (World.ownsRow.lt hv q hq).1
    have h2 := h.lex.wait.lt q e
    omega
  · exact (Only.of_below hb).trans (hO2.mono (fun k hk => .inr (.inr (.inl hk))))
  · intro k hk
    rcases hk with hk | hk | hk
    · exact .inr (World.ownsRow.lt hv k hk).1
    · exact .inl (.inr (.inl hk))
    · exact .inl (.inr (.inr hk))
theorem came_same (p : Pa.Pt) (s : ByteArray) (id : Nat) : Lx.rows (Pa.came p ⟨false, s, id⟩).main = Lx.rows p.main ∧ coming (Pa.came p ⟨false, s, id⟩) = coming p := by
  have e : ∀ l : List Pa.Pg, (Pa.die id l).map Lx.row0 = l.map Lx.row0 := Lx.rows_die id
  refine ⟨?_, ?_⟩
  · show Lx.all ((Pa.die id p.main).map Lx.row0) = Lx.all (p.main.map Lx.row0)
    rw [e]
  · unfold coming
    show (if p.left = 0 then Lx.empty else Lx.work (p.speed * p.since) (Lx.begin' ((Pa.next (Pa.die id p.main) ++ Pa.die id p.frozen).map Lx.row0))) = _
    rw [Pa.next_die, List.map_append, List.map_append, e, e]

set_option maxHeartbeats 1000000 in
theorem sRemove_any (x : Nat) (b : Box) (bf : Nat) (p : Pa.Pt) (N : Nat) (cs : List Do.Chg) (id : Nat) (s : ByteArray) (w : World) (hbf : bf ≤ 80) (h : SIn w x b bf p) (hI : Pa.Inv bf cs N p) (hth : (Do.there cs).length ≤ 60) (hs : s.size ≤ 40) (hfd : fdRes (al (tag p)) (id : Int) = (s, true)) (hN : N ≤ 8000000000000000) (hh : p.hand ≤ 9000000000000000) :
    Calls Try.prog 31 #[.pointer (some ⟨x, 3, none⟩), .int .i64 (id : Int)] w fun e w' => e = .returned (.bool true) ∧ ∃ b', SIn w' x b' bf (Pa.change bf p ⟨false, s, id⟩) ∧ b.kin b' ∧ Only (sfoot x b) w w' ∧ ∀ q, sfoot x b' q → sfoot x b q ∨ w.heap.size ≤ q := by
  obtain ⟨i0, hi, hz0, hz1, hz2⟩ := info_parts Try.info98
  have hC := hI.came_del hbf hth s id
  have hlen : (tag p).length ≤ 6000 := by
    rw [tag_len]
    have h1 := Pa.wt_len p.docs
    have h2 := hI.all_wt hbf hth
    omega
  have HF := sFind_any x b 0 (tag p) (id : Int) (s, true) w hfd hlen h.lex.box h.docs
  go_enter Try.func31, Try.ntmps31
  go_wp2_with fail
  refine HF.mono ?_
  rintro e w1 ⟨rfl, hb1⟩
  have h1 := h.below hb1
  obtain ⟨ao, cap, ed, hc⟩ := h1.docs.any
  have g4 := h1.lex.box.g4
  rw [ed] at g4
  go_wp2_with (at_make; refine wpList_make_own _ rfl _ _ 59 rfl w1.heap.size 98 i0 (.agg #[.int .i64 0, .string ⟨#[]⟩, .int .i64 0, .bool false, .bool false]) 5 Try.underlying59 hi hz0 hz1 .i64 .i64 _ (tag p).length rfl rfl (by omega) (by rw [hz2]; omega) (by unfold maxLen; omega) (Nat.le_refl _) ?_; intro w2 hown2 hgrow2; have hb2 : Below w1.heap.size w1 w2 := (Below.refl _ _).grown hgrow2 (Nat.le_refl _) (fun k hk => by cases hk); have g42 := cell_later hb2 g4)
  have ho0 : OwnD w2 w1.heap.size (.slice (some ⟨w1.heap.size, 0, none⟩) 0 (tag p).length) [] := hown2
  have HC : Hid (∀ k d, (tag p)[k]? = some d → ∃ g, ao = some (⟨g, 0, none⟩ : Addr) ∧ DcAt w1 g k d) := hc
  have H1 : Hid (SIn w1 x b bf p) := h1
  clear hown2 hgrow2 g42 g4 hc
  obtain ⟨ds, hds⟩ : ∃ ds, tag p = ds := ⟨_, rfl⟩
  rw [hds] at HC hlen ho0 ⊢
  have HDS : Hid (tag p = ds) := hds
  go_loopw [7, 29] (fun u i wr => ∃ k : Nat, k ≤ ds.length ∧ i = .int .i64 k ∧ OwnD wr w1.heap.size u (reD (id : Int) (ds.take k)) ∧ Below w1.heap.size w1 wr) (fun _ i _ => ds.length - (intOf i).toNat)
  case atStart => exact ⟨0, Nat.zero_le _, rfl, ho0, hb2⟩
  case round =>
    obtain ⟨k, hk, rfl, ho, hb⟩ := hrel
    clear ho0 hb2
    have hwl := reD_len (id : Int) ds k
    by_cases hlt : k < ds.length
    · obtain ⟨d, hdk⟩ : ∃ d, ds[k]? = some d := ⟨ds[k], List.getElem?_eq_getElem hlt⟩
      obtain ⟨g, rfl, hD⟩ := HC.out k d hdk
      obtain ⟨y0, y1, y2, y3, y4⟩ := hD.later hb
      have HS : Hid _ := reD_succ (id : Int) ds k d hdk
      clear hdk hD
      generalize reD (id : Int) (ds.take k) = M at *
      obtain ⟨pt, i, doc, dd, ot⟩ := d
      simp only at *
      by_cases hi1 : (i : Int) = (id : Int)
      · obtain rfl : i = id := by omega
        have d0 : ((i : Int) == (i : Int)) = true := by rw [beq_iff_eq]
        clear hi1
        by_cases hp : pt = 2
        · subst hp
          have d3 : ((2 : Int) != 2) = false := rfl
          have HN : Hid (reD (i : Int) (ds.take (k + 1)) = M) := by show _ = _; rw [HS.out]; simp [re1]
          go_wp2_with fail
          go_roundw
          case rel => exact ⟨k + 1, by omega, by go_num, by rw [HN.out]; exact World.ownsRow.alloc ho _, hb.alloc hb.size _⟩
          case measure => simp [intOf]; omega
        · have d3 : ((pt : Int) != 2) = true := by rw [bne_iff_ne]; omega
          have HN : Hid (reD (i : Int) (ds.take (k + 1)) = M ++ [(pt, ⟨i, doc, true, ot⟩)]) := by show _ = _; rw [HS.out]; simp [re1, hp]
          have ho2 : OwnD (wr.alloc (.cells #[.int .i64 (i : Int), .string doc, .int .i64 (pt : Int), .bool true, .bool ot] 98)) w1.heap.size u7 M := World.ownsRow.alloc ho _
          have hb3 : Below w1.heap.size w1 (wr.alloc (.cells #[.int .i64 (i : Int), .string doc, .int .i64 (pt : Int), .bool true, .bool ot] 98)) := hb.alloc hb.size _
          go_wp2_with (at_builtin; refine wpList_append_own _ rfl _ _ 59 rfl w1.heap.size 98 i0 (.agg #[.int .i64 0, .string ⟨#[]⟩, .int .i64 0, .bool false, .bool false]) 5 40 Try.underlying59 hi hz0 hz1 hz2 rfl (by decide) _ _ _ rfl (World.ownsRow.alloc ho2 _) ⟨wr.heap.size + 1, 0, none⟩ 1 1 (DD1 (pt, ⟨i, doc, true, ot⟩)) rfl rfl (news_two wr _ #[.int .i64 (i : Int), .string doc, .int .i64 (pt : Int), .bool true, .bool ot] _) (by intro u hu2; simp [DD1] at hu2; rcases hu2 with rfl | rfl | rfl | rfl | rfl <;> rfl) (by unfold maxLen; omega) (by omega) (by have := hb3.size; simp at this ⊢; omega) ?_; intro v' w3 hown3 hgrow3 _)
          have R := OwnD.more (c := (pt, ⟨i, doc, true, ot⟩)) ho2 hb3 hb3.size hown3 hgrow3
          clear hown3 hgrow3 ho2 hb3 ho hb
          go_wp2
          go_roundw
          case rel => exact ⟨k + 1, by omega, by go_num, by rw [HN.out]; exact R.1, R.2⟩
          case measure => simp [intOf]; omega
      · have d0 : ((i : Int) == (id : Int)) = false := by rw [beq_eq_false_iff_ne]; exact hi1
        by_cases hp : pt = 2
        · subst hp
          have d3 : ((2 : Int) != 2) = false := rfl
          cases dd
          · skip
            have HN : Hid (reD (id : Int) (ds.take (k + 1)) = M ++ [(2, ⟨i, doc, false, ot⟩)]) := by show _ = _; rw [HS.out]; simp [re1, hi1]
            have ho2 : OwnD (wr.alloc (.cells #[.int .i64 (i : Int), .string doc, .int .i64 2, .bool false, .bool ot] 98)) w1.heap.size u7 M := World.ownsRow.alloc ho _
            have hb3 : Below w1.heap.size w1 (wr.alloc (.cells #[.int .i64 (i : Int), .string doc, .int .i64 2, .bool false, .bool ot] 98)) := hb.alloc hb.size _
            go_wp2_with (at_builtin; refine wpList_append_own _ rfl _ _ 59 rfl w1.heap.size 98 i0 (.agg #[.int .i64 0, .string ⟨#[]⟩, .int .i64 0, .bool false, .bool false]) 5 40 Try.underlying59 hi hz0 hz1 hz2 rfl (by decide) _ _ _ rfl (World.ownsRow.alloc ho2 _) ⟨wr.heap.size + 1, 0, none⟩ 1 1 (DD1 (2, ⟨i, doc, false, ot⟩)) rfl rfl (news_two wr _ #[.int .i64 (i : Int), .string doc, .int .i64 2, .bool false, .bool ot] _) (by intro u hu2; simp [DD1] at hu2; rcases hu2 with rfl | rfl | rfl | rfl | rfl <;> rfl) (by unfold maxLen; omega) (by omega) (by have := hb3.size; simp at this ⊢; omega) ?_; intro v' w3 hown3 hgrow3 _)
            have R := OwnD.more (c := (2, ⟨i, doc, false, ot⟩)) ho2 hb3 hb3.size hown3 hgrow3
            clear hown3 hgrow3 ho2 hb3 ho hb
            go_wp2
            go_roundw
            case rel => exact ⟨k + 1, by omega, by go_num, by rw [HN.out]; exact R.1, R.2⟩
            case measure => simp [intOf]; omega
          · skip
            have HN : Hid (reD (id : Int) (ds.take (k + 1)) = M) := by show _ = _; rw [HS.out]; simp [re1, hi1]
            go_wp2_with fail
            go_roundw
            case rel => exact ⟨k + 1, by omega, by go_num, by rw [HN.out]; exact World.ownsRow.alloc ho _, hb.alloc hb.size _⟩
            case measure => simp [intOf]; omega
        · have d3 : ((pt : Int) != 2) = true := by rw [bne_iff_ne]; omega
          cases dd
          · skip
            have HN : Hid (reD (id : Int) (ds.take (k + 1)) = M ++ [(pt, ⟨i, doc, false, ot⟩)]) := by show _ = _; rw [HS.out]; simp [re1, hi1]
            have ho2 : OwnD (wr.alloc (.cells #[.int .i64 (i : Int), .string doc, .int .i64 (pt : Int), .bool false, .bool ot] 98)) w1.heap.size u7 M := World.ownsRow.alloc ho _
            have hb3 : Below w1.heap.size w1 (wr.alloc (.cells #[.int .i64 (i : Int), .string doc, .int .i64 (pt : Int), .bool false, .bool ot] 98)) := hb.alloc hb.size _
            go_wp2_with (at_builtin; refine wpList_append_own _ rfl _ _ 59 rfl w1.heap.size 98 i0 (.agg #[.int .i64 0, .string ⟨#[]⟩, .int .i64 0, .bool false, .bool false]) 5 40 Try.underlying59 hi hz0 hz1 hz2 rfl (by decide) _ _ _ rfl (World.ownsRow.alloc ho2 _) ⟨wr.heap.size + 1, 0, none⟩ 1 1 (DD1 (pt, ⟨i, doc, false, ot⟩)) rfl rfl (news_two wr _ #[.int .i64 (i : Int), .string doc, .int .i64 (pt : Int), .bool false, .bool ot] _) (by intro u hu2; simp [DD1] at hu2; rcases hu2 with rfl | rfl | rfl | rfl | rfl <;> rfl) (by unfold maxLen; omega) (by omega) (by have := hb3.size; simp at this ⊢; omega) ?_; intro v' w3 hown3 hgrow3 _)
            have R := OwnD.more (c := (pt, ⟨i, doc, false, ot⟩)) ho2 hb3 hb3.size hown3 hgrow3
            clear hown3 hgrow3 ho2 hb3 ho hb
            go_wp2
            go_roundw
            case rel => exact ⟨k + 1, by omega, by go_num, by rw [HN.out]; exact R.1, R.2⟩
            case measure => simp [intOf]; omega
          · skip
            have HN : Hid (reD (id : Int) (ds.take (k + 1)) = M ++ [(pt, ⟨i, doc, true, ot⟩)]) := by show _ = _; rw [HS.out]; simp [re1, hi1, hp]
            have ho2 : OwnD (wr.alloc (.cells #[.int .i64 (i : Int), .string doc, .int .i64 (pt : Int), .bool true, .bool ot] 98)) w1.heap.size u7 M := World.ownsRow.alloc ho _
            have hb3 : Below w1.heap.size w1 (wr.alloc (.cells #[.int .i64 (i : Int), .string doc, .int .i64 (pt : Int), .bool true, .bool ot] 98)) := hb.alloc hb.size _
            go_wp2_with (at_builtin; refine wpList_append_own _ rfl _ _ 59 rfl w1.heap.size 98 i0 (.agg #[.int .i64 0, .string ⟨#[]⟩, .int .i64 0, .bool false, .bool false]) 5 40 Try.underlying59 hi hz0 hz1 hz2 rfl (by decide) _ _ _ rfl (World.ownsRow.alloc ho2 _) ⟨wr.heap.size + 1, 0, none⟩ 1 1 (DD1 (pt, ⟨i, doc, true, ot⟩)) rfl rfl (news_two wr _ #[.int .i64 (i : Int), .string doc, .int .i64 (pt : Int), .bool true, .bool ot] _) (by intro u hu2; simp [DD1] at hu2; rcases hu2 with rfl | rfl | rfl | rfl | rfl <;> rfl) (by unfold maxLen; omega) (by omega) (by have := hb3.size; simp at this ⊢; omega) ?_; intro v' w3 hown3 hgrow3 _)
            have R := OwnD.more (c := (pt, ⟨i, doc, true, ot⟩)) ho2 hb3 hb3.size hown3 hgrow3
            clear hown3 hgrow3 ho2 hb3 ho hb
            go_wp2
            go_roundw
            case rel => exact ⟨k + 1, by omega, by go_num, by rw [HN.out]; exact R.1, R.2⟩
            case measure => simp [intOf]; omega
    · have hke : k = ds.length := by omega
      subst hke
      rw [List.take_of_length_le (Nat.le_refl _), ← HDS.out, reD_tag p id s (fun g hg => (hI.live g hg).1)] at ho
      have hcs := came_same p s id
      have S2 := H1.out.swap hb ho hcs.1 hcs.2 rfl rfl rfl
      have hr := H1.out.lex.box.below hb
      have g4 := hr.g4
      have f4 := hr.free 4
      have HW := work_is x _ bf _ (s.size + 1) N _ _ hbf S2.1 hC (by omega) (by rw [Do.there_del _ _ rfl]; exact Nat.le_trans (List.length_filter_le _ _) hth) (by omega) hh
      rw [show (((s.size + 1 : Nat)) : Int) = (s.size : Int) + 1 from rfl] at HW
      obtain ⟨au, capu, eu, _⟩ := ho.any
      subst eu
      go_wp2_with fail
      refine HW.mono ?_
      rintro e w4 ⟨rfl, b4, hS4, hk4, hO4, hQ4⟩
      have hOw := (Only.of_below (F := sfoot x b) hb1).trans S2.2.1
      go_wp2_with fail
      go_ret
      refine ⟨rfl, b4, hS4, hk4, hOw.step hO4 (fun q hq => (S2.2.2 q hq).imp (fun h => h) (fun h => Nat.le_trans hb1.size h)), fun q hq => ?_⟩
      rcases hQ4 q hq with h | h
      · exact (S2.2.2 q h).imp (fun h => h) (fun h => Nat.le_trans hb1.size h)
      · right; have := hOw.size; omega

end Go.Proofs.Ythkndfkkgncjfab
