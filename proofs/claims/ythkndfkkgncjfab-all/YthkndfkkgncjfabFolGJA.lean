/- LexM, DocE, PtM, DocF, DocG, HitM. -/
import Derived.Test.YthkndfkkgncjfabRefSJB
import Derived.Test.YthkndfkkgncjfabRefSJC
namespace Go.Proofs.Ythkndfkkgncjfab.Lx

/-- a row: a document's suffix from an offset on -/
structure Rw where
  id : Nat
  doc : ByteArray
  at' : Nat
def Rw.rest (r : Rw) : ByteArray := r.doc.extract r.at' r.doc.size
def Rw.bytes (r : Rw) : List UInt8 := r.doc.data.toList.drop r.at'
def Rw.next (r : Rw) : Rw := { r with at' := r.at' + 1 }

theorem toList_extract (a : ByteArray) (i j : Nat) : (a.extract i j).data.toList = (a.data.toList.take j).drop i := by
  rw [ByteArray.data_extract, Array.toList_extract]
  simp [List.extract, List.drop_take]
theorem ba_ext (a b : ByteArray) (h : a.data.toList = b.data.toList) : a = b := by
  rcases a with ⟨a⟩; rcases b with ⟨b⟩
  congr 1
  exact Array.ext' h
theorem rest_bytes (r : Rw) : r.rest.data.toList = r.bytes := by
  unfold Rw.rest Rw.bytes
  rw [toList_extract, List.take_of_length_le (show r.doc.data.toList.length ≤ r.doc.size from Nat.le_refl _)]
theorem rest_size (r : Rw) : r.rest.size = r.doc.size - r.at' := by
  have := congrArg List.length (rest_bytes r)
  unfold Rw.bytes at this
  rw [List.length_drop] at this
  exact this
theorem rest_whole (id : Nat) (d : ByteArray) : (Rw.mk id d 0).rest = d := ba_ext _ _ (by rw [rest_bytes]; rfl)
theorem rest_next (r : Rw) : r.rest.extract 1 r.rest.size = r.next.rest := ba_ext _ _ (by
  rw [toList_extract, rest_bytes, rest_bytes, List.take_of_length_le (by rw [← rest_bytes]; exact Nat.le_refl _)]
  unfold Rw.bytes Rw.next
  rw [List.drop_drop])

/-- is the one not behind the other? -/
def le (a b : Rw) : Bool := !Op.bytesLess b.bytes a.bytes
theorem le_refl (a : Rw) : le a a = true := by unfold le; rw [Fo.lt_irrefl]; rfl
theorem le_total (a b : Rw) : le a b = true ∨ le b a = true := by
  unfold le
  cases h : Op.bytesLess b.bytes a.bytes
  · exact .inl rfl
  · right; rw [Fo.lt_asymm _ _ h]; rfl
theorem le_trans {a b c : Rw} (h1 : le a b = true) (h2 : le b c = true) : le a c = true := by
  unfold le at *
  simp only [Bool.not_eq_true'] at *
  cases h : Op.bytesLess c.bytes a.bytes
  · rfl
  · exfalso
    rcases Fo.lt_total b.bytes c.bytes with h3 | h3 | h3
    · rw [Fo.lt_trans _ _ _ h3 h] at h1; cases h1
    · rw [h3] at h1; rw [h1] at h; cases h
    · rw [h3] at h2; cases h2
theorem le_of_not {a b : Rw} (h : ¬ le a b = true) : le b a = true := (le_total a b).resolve_left h

/-- the lexicon -/
structure Lex where
  waiting : List Rw
  runs : List Rw
  width : Nat
  merged : List Rw
  start : Nat
  left : Nat
  right : Nat

def empty : Lex := ⟨[], [], 0, [], 0, 0, 0⟩
def whole (l : Lex) : Bool := l.waiting.isEmpty && decide (l.runs.length ≤ l.width)
def pair (l : Lex) (s : Nat) : Lex := { l with start := s, left := s, right := min (s + l.width) l.runs.length }
def take (l : Lex) : Lex := match l.waiting with
  | [] => l
  | r :: ws =>
    if 0 < r.rest.size then { l with runs := l.runs ++ [r], waiting := r.next :: ws }
    else if ws = [] then pair { l with runs := l.runs ++ [r], waiting := ws, width := 1 } 0
    else { l with runs := l.runs ++ [r], waiting := ws }
def middle (l : Lex) : Nat := min (l.start + l.width) l.runs.length
def fin (l : Lex) : Nat := min (middle l + l.width) l.runs.length
def double (l : Lex) : Lex := pair { l with runs := l.merged, merged := [], width := 2 * l.width } 0
/-- is it the left one's turn? -/
def lefts (l : Lex) : Bool := decide (l.left < middle l) && (decide (fin l ≤ l.right) || match l.runs[l.left]?, l.runs[l.right]? with
  | some a, some b => le a b
  | _, _ => false)
def moved (l : Lex) : Lex :=
  if lefts l then { l with merged := l.merged ++ (l.runs[l.left]?).toList, left := l.left + 1 }
  else if l.right < fin l then { l with merged := l.merged ++ (l.runs[l.right]?).toList, right := l.right + 1 } else l
def settle (l : Lex) (e : Nat) : Lex := if l.merged.length < e then l else if e < l.runs.length then pair l e else double l
def merge (l : Lex) : Lex := settle (moved l) (fin l)
def step (l : Lex) : Lex := if whole l then l else if l.waiting = [] then merge l else take l
def work : Nat → Lex → Lex
  | 0, l => l
  | u + 1, l => step (work u l)
theorem work_add (a b : Nat) (l : Lex) : work (a + b) l = work b (work a l) := by
  induction b with
  | zero => rfl
  | succ b ih => show step (work (a + b) l) = step (work b (work a l)); rw [ih]
theorem work_whole (l : Lex) (h : whole l = true) : ∀ u, work u l = l
  | 0 => rfl
  | u + 1 => by show step (work u l) = l; rw [work_whole l h u]; unfold step; rw [if_pos h]

/-- a row and those behind it in its document -/
def tails (r : Rw) : List Rw := (List.range (r.doc.size + 1 - r.at')).map fun j => ⟨r.id, r.doc, r.at' + j⟩
theorem tails_next (r : Rw) (h : 0 < r.rest.size) : tails r = r :: tails r.next := by
  rw [rest_size] at h
  unfold tails Rw.next
  have e : r.doc.size + 1 - r.at' = (r.doc.size + 1 - (r.at' + 1)) + 1 := by omega
  rw [e, List.range_succ_eq_map]
  simp only [List.map_cons, List.map_map]
  congr 1
  apply List.map_congr_left
  intro j _
  simp only [Function.comp, Nat.succ_eq_add_one]
  congr 1; omega
theorem tails_last (r : Rw) (h : ¬ 0 < r.rest.size) (hr : r.at' ≤ r.doc.size) : tails r = [r] := by
  rw [rest_size] at h
  unfold tails
  have e : r.doc.size + 1 - r.at' = 1 := by omega
  rw [e]; rfl
def all (ws : List Rw) : List Rw := ws.flatMap tails
theorem tails_len (r : Rw) (hr : r.at' ≤ r.doc.size) : (tails r).length = r.doc.size - r.at' + 1 := by unfold tails; simp; omega

/-- rows that are sorted block by block -/
def Blk (w : Nat) (l : List Rw) : Prop := ∀ (i j : Nat) (a b : Rw), i < j → l[i]? = some a → l[j]? = some b → i / w = j / w → le a b = true
def Sorted (l : List Rw) : Prop := ∀ (i j : Nat) (a b : Rw), i < j → l[i]? = some a → l[j]? = some b → le a b = true
theorem Blk.one (l : List Rw) : Blk 1 l := fun i j a b h _ _ e => by rw [Nat.div_one, Nat.div_one] at e; omega
theorem Blk.sorted {w : Nat} {l : List Rw} (h : Blk w l) (hw : l.length ≤ w) : Sorted l := fun i j a b hij hi hj => by
  have h1 := (List.getElem?_eq_some_iff.1 hi).1
  have h2 := (List.getElem?_eq_some_iff.1 hj).1
  exact h i j a b hij hi hj (by rw [Nat.div_eq_of_lt (by omega), Nat.div_eq_of_lt (by omega)])
theorem Blk.nil (w : Nat) : Blk w [] := fun i j a b _ h => by simp at h

/-- how it stands while the runs are merged: of the rows ds, k doublings behind, u units done -/
structure Mer (ds : List Rw) (u k : Nat) (l : Lex) : Prop where
  wait : l.waiting = []
  wid : l.width = 2 ^ k
  perm : l.runs.Perm ds
  blk : Blk l.width l.runs
  blk2 : Blk (2 * l.width) l.merged
  start : ∃ q, l.start = 2 * l.width * q
  slt : l.start < l.runs.length
  lo : l.start ≤ l.left
  lm : l.left ≤ middle l
  mr : middle l ≤ l.right
  rf : l.right ≤ fin l
  len : l.merged.length + middle l = l.left + l.right
  short : l.merged.length < fin l
  units : u = ds.length + k * ds.length + l.merged.length
  mp : l.merged.Perm (l.runs.take l.left ++ (l.runs.take l.right).drop (middle l))
  bnd : ∀ i a, l.start ≤ i → l.merged[i]? = some a → (∀ b, l.left < middle l → l.runs[l.left]? = some b → le a b = true) ∧ (∀ b, l.right < fin l → l.runs[l.right]? = some b → le a b = true)

theorem Mer.start' {ds : List Rw} {k : Nat} {runs : List Rw} (hp : runs.Perm ds) (hb : Blk (2 ^ k) runs) (h0 : 0 < runs.length) : Mer ds (ds.length + k * ds.length) k (pair ⟨[], runs, 2 ^ k, [], 0, 0, 0⟩ 0) := by
  have hk : 0 < 2 ^ k := Nat.pow_pos (by decide)
  refine { wait := rfl, wid := rfl, perm := hp, blk := hb, blk2 := Blk.nil _, start := ⟨0, rfl⟩, slt := h0, lo := Nat.le_refl _, lm := Nat.zero_le _, mr := Nat.le_refl _, rf := ?_, len := by simp [pair, middle], short := ?_, units := by simp [pair], mp := ?_, bnd := ?_ }
  · simp only [pair, middle, fin]; omega
  · simp only [pair, middle, fin, List.length_nil]; omega
  · simp only [pair, middle, List.take_zero, List.nil_append]
    rw [List.drop_of_length_le (by rw [List.length_take]; omega)]
  · intro i a _ h; simp [pair] at h

theorem Blk.snoc {w : Nat} {l : List Rw} {x : Rw} (h : Blk w l) (hx : ∀ i a, l[i]? = some a → i / w = l.length / w → le a x = true) : Blk w (l ++ [x]) := by
  intro i j a b hij hi hj e
  have hjl := (List.getElem?_eq_some_iff.1 hj).1
  rw [List.length_append, List.length_singleton] at hjl
  rw [List.getElem?_append_left (by omega)] at hi
  rcases Nat.lt_or_ge j l.length with h1 | h1
  · rw [List.getElem?_append_left h1] at hj
    exact h i j a b hij hi hj e
  · have : j = l.length := by omega
    subst this
    simp at hj
    subst hj
    exact hx i a hi e

theorem take_succ_perm (l : List Rw) (i m r : Nat) (x : Rw) (h : l[i]? = some x) : (l.take (i + 1) ++ (l.take r).drop m).Perm ((l.take i ++ (l.take r).drop m) ++ [x]) := by
  have hi := (List.getElem?_eq_some_iff.1 h)
  obtain ⟨h1, h2⟩ := hi
  rw [List.take_succ_eq_append_getElem h1, h2, List.append_assoc, List.append_assoc]
  exact List.Perm.append_left _ (List.perm_append_comm)
theorem take_right (l : List Rw) (i m r : Nat) (x : Rw) (h : l[r]? = some x) (hmr : m ≤ r) : l.take i ++ (l.take (r + 1)).drop m = (l.take i ++ (l.take r).drop m) ++ [x] := by
  obtain ⟨h1, h2⟩ := List.getElem?_eq_some_iff.1 h
  rw [List.take_succ_eq_append_getElem h1, h2, List.drop_append_of_le_length (by rw [List.length_take]; omega), List.append_assoc]


/-- a row is moved from the left run -/
theorem Mer.left_move {ds : List Rw} {u k : Nat} {l : Lex} (h : Mer ds u k l) (hl : lefts l = true) (x : Rw) (hx : l.runs[l.left]? = some x) :
    let m : Lex := { l with merged := l.merged ++ [x], left := l.left + 1 }
    m.left ≤ middle l ∧ Blk (2 * l.width) m.merged ∧ m.merged.length + middle l = m.left + m.right ∧ m.merged.Perm (l.runs.take m.left ++ (l.runs.take m.right).drop (middle l)) ∧
    (∀ i a, l.start ≤ i → m.merged[i]? = some a → (∀ b, m.left < middle l → l.runs[m.left]? = some b → le a b = true) ∧ (∀ b, m.right < fin l → l.runs[m.right]? = some b → le a b = true)) := by
  intro m
  have hwd : 0 < l.width := by rw [h.wid]; exact Nat.pow_pos (by decide)
  unfold lefts at hl
  rw [Bool.and_eq_true, decide_eq_true_eq, Bool.or_eq_true, decide_eq_true_eq] at hl
  obtain ⟨hlm, hch⟩ := hl
  obtain ⟨q, hq⟩ := h.start
  have hmid : middle l ≤ l.start + l.width := by unfold middle; omega
  have hfin : fin l ≤ l.start + 2 * l.width := by unfold fin; omega
  have hst := h.lo
  have hln := h.len
  have hsh := h.short
  have hdiv : ∀ i, l.start ≤ i → i < l.start + l.width → i / l.width = 2 * q := fun i h1 h2 => by
    rw [hq] at h1 h2
    have e1 : 2 * l.width * q = 2 * q * l.width := by rw [Nat.mul_assoc, Nat.mul_comm l.width q, ← Nat.mul_assoc]
    rw [e1] at h1 h2
    exact Nat.div_eq_of_lt_le h1 (by rw [Nat.succ_mul]; exact h2)
  have hdiv2 : ∀ i, i / (2 * l.width) = l.merged.length / (2 * l.width) → l.start ≤ i := fun i e => by
    have h1 : l.merged.length / (2 * l.width) = q := by
      refine Nat.div_eq_of_lt_le ?_ ?_
      · rw [Nat.mul_comm]; rw [hq] at hst; have := h.mr; omega
      · rw [Nat.succ_mul, Nat.mul_comm]; rw [hq] at hfin; omega
    rw [h1] at e
    rw [hq, Nat.mul_comm, ← e]
    exact Nat.div_mul_le_self _ _
  have hxr : ∀ b, l.right < fin l → l.runs[l.right]? = some b → le x b = true := fun b hb hrb => by
    rcases hch with h1 | h1
    · omega
    · rw [hx, hrb] at h1; exact h1
  have hxl : ∀ b, l.left + 1 < middle l → l.runs[l.left + 1]? = some b → le x b = true := fun b hb hrb =>
    h.blk l.left (l.left + 1) x b (by omega) hx hrb (by rw [hdiv _ hst (by omega), hdiv _ (by omega) (by omega)])
  refine ⟨hlm, ?_, ?_, ?_, ?_⟩
  · exact h.blk2.snoc fun i a hi e => (h.bnd i a (hdiv2 i e) hi).1 x hlm hx
  · show (l.merged ++ [x]).length + middle l = l.left + 1 + l.right
    rw [List.length_append, List.length_singleton]; omega
  · exact (List.Perm.append_right [x] h.mp).trans (take_succ_perm l.runs l.left (middle l) l.right x hx).symm
  · intro i a hi ha
    rcases Nat.lt_or_ge i l.merged.length with h1 | h1
    · have ha' : l.merged[i]? = some a := by rw [← ha]; exact (List.getElem?_append_left h1).symm
      obtain ⟨b1, b2⟩ := h.bnd i a hi ha'
      exact ⟨fun b hb hrb => le_trans (b1 x hlm hx) (hxl b hb hrb), b2⟩
    · have ha' : (l.merged ++ [x])[i]? = some a := ha
      have h2 := (List.getElem?_eq_some_iff.1 ha').1
      rw [List.length_append, List.length_singleton] at h2
      have : i = l.merged.length := by omega
      subst this
      simp at ha'
      subst ha'
      exact ⟨hxl, hxr⟩

/-- a row is moved from the right run -/
theorem Mer.right_move {ds : List Rw} {u k : Nat} {l : Lex} (h : Mer ds u k l) (hl : ¬ lefts l = true) (hr : l.right < fin l) (x : Rw) (hx : l.runs[l.right]? = some x) :
    let m : Lex := { l with merged := l.merged ++ [x], right := l.right + 1 }
    m.right ≤ fin l ∧ Blk (2 * l.width) m.merged ∧ m.merged.length + middle l = m.left + m.right ∧ m.merged.Perm (l.runs.take m.left ++ (l.runs.take m.right).drop (middle l)) ∧
    (∀ i a, l.start ≤ i → m.merged[i]? = some a → (∀ b, m.left < middle l → l.runs[m.left]? = some b → le a b = true) ∧ (∀ b, m.right < fin l → l.runs[m.right]? = some b → le a b = true)) := by
  intro m
  have hwd : 0 < l.width := by rw [h.wid]; exact Nat.pow_pos (by decide)
  unfold lefts at hl
  rw [Bool.and_eq_true, decide_eq_true_eq, Bool.or_eq_true, decide_eq_true_eq] at hl
  obtain ⟨q, hq⟩ := h.start
  have hmid : middle l ≤ l.start + l.width := by unfold middle; omega
  have hmid2 : middle l = l.start + l.width := by
    have h1 := h.mr
    have : fin l ≤ l.runs.length := by unfold fin; omega
    unfold middle at *; omega
  have hfin : fin l ≤ l.start + 2 * l.width := by unfold fin; omega
  have hst := h.lo
  have hln := h.len
  have hsh := h.short
  have hmr := h.mr
  have hdiv : ∀ i, l.start + l.width ≤ i → i < l.start + 2 * l.width → i / l.width = 2 * q + 1 := fun i h1 h2 => by
    rw [hq] at h1 h2
    have e1 : 2 * l.width * q = 2 * q * l.width := by rw [Nat.mul_assoc, Nat.mul_comm l.width q, ← Nat.mul_assoc]
    rw [e1] at h1 h2
    refine Nat.div_eq_of_lt_le ?_ ?_
    · rw [Nat.add_mul, Nat.one_mul]; exact h1
    · rw [Nat.succ_mul, Nat.add_mul, Nat.one_mul]; omega
  have hdiv2 : ∀ i, i / (2 * l.width) = l.merged.length / (2 * l.width) → l.start ≤ i := fun i e => by
    have h1 : l.merged.length / (2 * l.width) = q := by
      refine Nat.div_eq_of_lt_le ?_ ?_
      · rw [Nat.mul_comm]; rw [hq] at hst; omega
      · rw [Nat.succ_mul, Nat.mul_comm]; rw [hq] at hfin; omega
    rw [h1] at e
    rw [hq, Nat.mul_comm, ← e]
    exact Nat.div_mul_le_self _ _
  have hxl : ∀ b, l.left < middle l → l.runs[l.left]? = some b → le x b = true := fun b hb hrb => by
    refine le_of_not fun h1 => hl ⟨hb, .inr ?_⟩
    rw [hx, hrb]; exact h1
  have hxr : ∀ b, l.right + 1 < fin l → l.runs[l.right + 1]? = some b → le x b = true := fun b hb hrb =>
    h.blk l.right (l.right + 1) x b (by omega) hx hrb (by rw [hdiv _ (by omega) (by omega), hdiv _ (by omega) (by omega)])
  refine ⟨hr, ?_, ?_, ?_, ?_⟩
  · exact h.blk2.snoc fun i a hi e => (h.bnd i a (hdiv2 i e) hi).2 x hr hx
  · show (l.merged ++ [x]).length + middle l = l.left + (l.right + 1)
    rw [List.length_append, List.length_singleton]; omega
  · show (l.merged ++ [x]).Perm (l.runs.take l.left ++ (l.runs.take (l.right + 1)).drop (middle l))
    rw [take_right l.runs l.left (middle l) l.right x hx hmr]
    exact List.Perm.append_right [x] h.mp
  · intro i a hi ha
    rcases Nat.lt_or_ge i l.merged.length with h1 | h1
    · have ha' : l.merged[i]? = some a := by rw [← ha]; exact (List.getElem?_append_left h1).symm
      obtain ⟨b1, b2⟩ := h.bnd i a hi ha'
      exact ⟨b1, fun b hb hrb => le_trans (b2 x hr hx) (hxr b hb hrb)⟩
    · have ha' : (l.merged ++ [x])[i]? = some a := ha
      have h2 := (List.getElem?_eq_some_iff.1 ha').1
      rw [List.length_append, List.length_singleton] at h2
      have : i = l.merged.length := by omega
      subst this
      simp at ha'
      subst ha'
      exact ⟨hxl, hxr⟩

/-- it is whole: sorted, and of these rows -/
def Ready (ds : List Rw) (l : Lex) : Prop := whole l = true ∧ l.runs.Perm ds ∧ Sorted l.runs ∧ l.waiting = [] ∧ l.merged = [] ∧ l.start = 0 ∧ l.left = 0 ∧ l.right ≤ ds.length ∧ l.width ≤ 2 * ds.length
/-- how it stands behind u units -/
def Stage (ds : List Rw) (u : Nat) (l : Lex) : Prop := Ready ds l ∨ ∃ k, 2 ^ k < ds.length ∧ Mer ds u k l

theorem settled {ds : List Rw} {u k : Nat} {l m : Lex} (h : Mer ds u k l) (hk : 2 ^ k < ds.length) (e1 : m.waiting = l.waiting) (e2 : m.runs = l.runs) (e3 : m.width = l.width) (e4 : m.start = l.start) (hml : m.merged.length = l.merged.length + 1)
    (q1 : l.start ≤ m.left) (q2 : m.left ≤ middle l) (q3 : middle l ≤ m.right) (q4 : m.right ≤ fin l) (q5 : Blk (2 * l.width) m.merged) (q6 : m.merged.length + middle l = m.left + m.right) (q7 : m.merged.Perm (l.runs.take m.left ++ (l.runs.take m.right).drop (middle l)))
    (q8 : ∀ i a, l.start ≤ i → m.merged[i]? = some a → (∀ b, m.left < middle l → l.runs[m.left]? = some b → le a b = true) ∧ (∀ b, m.right < fin l → l.runs[m.right]? = some b → le a b = true)) : Stage ds (u + 1) (settle m (fin l)) := by
  have em : middle m = middle l := by unfold middle; rw [e2, e3, e4]
  have ef : fin m = fin l := by unfold fin; rw [em, e2, e3]
  have hpl : l.runs.length = ds.length := h.perm.length_eq
  have hu := h.units
  have hwd : 0 < l.width := by rw [h.wid]; exact Nat.pow_pos (by decide)
  have hfm : fin l ≤ l.runs.length := by unfold fin; omega
  unfold settle
  by_cases c1 : m.merged.length < fin l
  · rw [if_pos c1]
    refine .inr ⟨k, hk, { wait := by rw [e1]; exact h.wait, wid := by rw [e3]; exact h.wid, perm := by rw [e2]; exact h.perm, blk := by rw [e3, e2]; exact h.blk, blk2 := by rw [e3]; exact q5, start := by rw [e4, e3]; exact h.start, slt := by rw [e4, e2]; exact h.slt, lo := by rw [e4]; exact q1, lm := by rw [em]; exact q2, mr := by rw [em]; exact q3, rf := by rw [ef]; exact q4, len := by rw [em]; exact q6, short := by rw [ef]; exact c1, units := by omega, mp := by rw [e2, em]; exact q7, bnd := by rw [e2, e4, em, ef]; exact q8 }⟩
  · rw [if_neg c1]
    have hle : m.left = middle l := by omega
    have hre : m.right = fin l := by omega
    have hmp : m.merged.Perm (l.runs.take (fin l)) := by
      have : l.runs.take (middle l) ++ (l.runs.take (fin l)).drop (middle l) = l.runs.take (fin l) := by
        have h1 : l.runs.take (middle l) = (l.runs.take (fin l)).take (middle l) := by rw [List.take_take]; congr 1; omega
        rw [h1, List.take_append_drop]
      rw [hle, hre, this] at q7; exact q7
    have hmlen : m.merged.length = fin l := by have := hmp.length_eq; rw [List.length_take] at this; omega
    by_cases c2 : fin l < m.runs.length
    · rw [if_pos c2]
      rw [e2] at c2
      have hfl : fin l = l.start + 2 * l.width := by unfold fin middle at *; omega
      obtain ⟨q, hq⟩ := h.start
      have mp1 : middle (pair m (fin l)) = min (fin l + l.width) l.runs.length := by unfold middle pair; simp only [e2, e3]
      have fp0 : fin (pair m (fin l)) = min (min (fin l + l.width) l.runs.length + l.width) l.runs.length := by
        show min (middle (pair m (fin l)) + m.width) m.runs.length = _
        rw [mp1, e2, e3]
      have fp1 : fin l < fin (pair m (fin l)) := by rw [fp0]; omega
      refine .inr ⟨k, hk, { wait := e1.trans h.wait, wid := e3.trans h.wid, perm := by show m.runs.Perm ds; rw [e2]; exact h.perm, blk := by show Blk m.width m.runs; rw [e3, e2]; exact h.blk, blk2 := by show Blk (2 * m.width) m.merged; rw [e3]; exact q5, start := ⟨q + 1, by show fin l = 2 * m.width * (q + 1); rw [e3, hfl, hq, Nat.mul_add, Nat.mul_one]⟩, slt := by show fin l < m.runs.length; rw [e2]; exact c2, lo := Nat.le_refl _, lm := ?_, mr := ?_, rf := ?_, len := ?_, short := ?_, units := ?_, mp := ?_, bnd := ?_ }⟩
      · rw [mp1]; show fin l ≤ _; omega
      · rw [mp1]; show _ ≤ min (fin l + m.width) m.runs.length; rw [e2, e3]; omega
      · show min (fin l + m.width) m.runs.length ≤ _
        rw [fp0, e2, e3]
        omega
      · rw [mp1]; show m.merged.length + _ = fin l + min (fin l + m.width) m.runs.length; rw [e2, e3, hmlen]
      · show m.merged.length < _; rw [hmlen]; exact fp1
      · show u + 1 = ds.length + k * ds.length + m.merged.length; omega
      · show m.merged.Perm (m.runs.take (fin l) ++ (m.runs.take (min (fin l + m.width) m.runs.length)).drop (middle (pair m (fin l))))
        rw [mp1, e2, e3, List.drop_of_length_le (by rw [List.length_take]; omega), List.append_nil]
        exact hmp
      · intro i a hi ha
        have hi' : fin l ≤ i := hi
        have ha' : m.merged[i]? = some a := ha
        have := (List.getElem?_eq_some_iff.1 ha').1
        omega
    · rw [if_neg c2]
      rw [e2] at c2
      have hfe : fin l = l.runs.length := by omega
      rw [hfe, List.take_of_length_le (Nat.le_refl _)] at hmp
      have hmd : m.merged.Perm ds := hmp.trans h.perm
      have hw2 : 2 * m.width = 2 ^ (k + 1) := by rw [e3, h.wid, Nat.pow_succ]; omega
      have hb2 : Blk (2 ^ (k + 1)) m.merged := by rw [← hw2, e3]; exact q5
      have hd : double m = pair ⟨[], m.merged, 2 ^ (k + 1), [], 0, 0, 0⟩ 0 := by
        unfold double pair
        simp only [hw2, e1, h.wait]
      rw [hd]
      by_cases c3 : 2 ^ (k + 1) < ds.length
      · refine .inr ⟨k + 1, c3, ?_⟩
        have hq := Mer.start' (k := k + 1) hmd hb2 (by rw [hmlen]; have := h.slt; omega)
        have : u + 1 = ds.length + (k + 1) * ds.length := by rw [Nat.add_mul, Nat.one_mul]; have := hmd.length_eq; omega
        rw [this]; exact hq
      · refine .inl ⟨?_, hmd, hb2.sorted (by rw [hmd.length_eq]; omega), rfl, rfl, rfl, rfl, by simp only [pair]; rw [hmd.length_eq]; omega, by simp only [pair]; rw [Nat.pow_succ]; omega⟩
        unfold whole pair
        simp only [List.isEmpty_nil, Bool.true_and, decide_eq_true_eq]
        rw [hmd.length_eq]; omega

theorem Mer.next {ds : List Rw} {u k : Nat} {l : Lex} (h : Mer ds u k l) (hk : 2 ^ k < ds.length) : Stage ds (u + 1) (merge l) := by
  have hfm : fin l ≤ l.runs.length := by unfold fin; omega
  have hmm : middle l ≤ l.runs.length := by unfold middle; omega
  have h1 := h.lm
  have h2 := h.mr
  have h3 := h.rf
  have h4 := h.len
  have h5 := h.short
  unfold merge moved
  by_cases c1 : lefts l = true
  · rw [if_pos c1]
    have hlt : l.left < middle l := by
      unfold lefts at c1
      rw [Bool.and_eq_true, decide_eq_true_eq] at c1
      exact c1.1
    obtain ⟨x, hx⟩ : ∃ x, l.runs[l.left]? = some x := ⟨_, List.getElem?_eq_getElem (by omega)⟩
    obtain ⟨a1, a2, a3, a4, a5⟩ := h.left_move c1 x hx
    rw [hx]
    exact settled h hk rfl rfl rfl rfl (by simp) (Nat.le_trans h.lo (Nat.le_succ _)) a1 h2 h3 a2 a3 a4 a5
  · rw [if_neg c1]
    have hr : l.right < fin l := by
      rcases Nat.lt_or_ge l.right (fin l) with hh | hh
      · exact hh
      · exfalso
        apply c1
        unfold lefts
        rw [Bool.and_eq_true, decide_eq_true_eq, Bool.or_eq_true, decide_eq_true_eq]
        exact ⟨by omega, .inl hh⟩
    rw [if_pos hr]
    obtain ⟨x, hx⟩ : ∃ x, l.runs[l.right]? = some x := ⟨_, List.getElem?_eq_getElem (by omega)⟩
    obtain ⟨a1, a2, a3, a4, a5⟩ := h.right_move c1 hr x hx
    rw [hx]
    exact settled h hk rfl rfl rfl rfl (by simp) h.lo h1 (Nat.le_trans h2 (Nat.le_succ _)) a1 a2 a3 a4 a5

/-- how it stands while rows are taken in -/
structure Tak (Q : Nat → ByteArray → Prop) (ds : List Rw) (u : Nat) (l : Lex) : Prop where
  st : l.start = 0 ∧ l.left = 0 ∧ l.right = 0
  pr : ∀ r ∈ l.waiting, Q r.id r.doc
  wait : l.waiting ≠ []
  ok : ∀ r ∈ l.waiting, r.at' ≤ r.doc.size
  rest : l.runs ++ all l.waiting = ds
  units : u = l.runs.length
  wid : l.width = 0
  mg : l.merged = []

theorem Tak.next {Q : Nat → ByteArray → Prop} {ds : List Rw} {u : Nat} {l : Lex} (h : Tak Q ds u l) : Tak Q ds (u + 1) (take l) ∨ Stage ds (u + 1) (take l) := by
  obtain ⟨hst, hpr, hw, hok, hr, hu, h0, hm⟩ := h
  obtain ⟨wt, rn, wd, mg, st, lf, rg⟩ := l
  simp only at *
  subst h0 hm
  cases wt with
  | nil => exact absurd rfl hw
  | cons r ws =>
    have hr1 := hok r (by simp)
    unfold take
    simp only
    by_cases c1 : 0 < r.rest.size
    · rw [if_pos c1]
      left
      refine ⟨hst, ?_, by simp, ?_, ?_, by simp [hu], rfl, rfl⟩
      · intro d hd
        simp only [List.mem_cons] at hd
        rcases hd with rfl | hd
        · exact hpr r (by simp)
        · exact hpr d (by simp [hd])
      · intro d hd
        simp only [List.mem_cons] at hd
        rcases hd with rfl | hd
        · show r.at' + 1 ≤ r.doc.size
          rw [rest_size] at c1; omega
        · exact hok d (by simp [hd])
      · show (rn ++ [r]) ++ all (r.next :: ws) = ds
        rw [← hr]
        simp only [all, List.flatMap_cons]
        rw [tails_next r c1]
        simp
    · rw [if_neg c1]
      have hd : (rn ++ [r]) ++ all ws = ds := by
        rw [← hr]
        simp only [all, List.flatMap_cons]
        rw [tails_last r c1 hr1]
        simp
      by_cases c2 : ws = []
      · rw [if_pos c2]
        subst c2
        right
        have hd2 : rn ++ [r] = ds := by rw [← hd]; simp [all]
        have hp : (rn ++ [r]).Perm ds := by rw [hd2]
        have hb : Blk (2 ^ 0) (rn ++ [r]) := Blk.one _
        have hul : u + 1 = ds.length := by rw [← hd2, hu]; simp
        show Stage ds (u + 1) (pair ⟨[], rn ++ [r], 1, [], st, lf, rg⟩ 0)
        have hpe : pair ⟨[], rn ++ [r], 1, [], st, lf, rg⟩ 0 = pair ⟨[], rn ++ [r], 2 ^ 0, [], 0, 0, 0⟩ 0 := rfl
        rw [hpe]
        by_cases c3 : 2 ^ 0 < ds.length
        · refine .inr ⟨0, c3, ?_⟩
          have hq := Mer.start' (k := 0) hp hb (by simp)
          have : u + 1 = ds.length + 0 * ds.length := by omega
          rw [this]; exact hq
        · refine .inl ⟨?_, hp, hb.sorted (by rw [hp.length_eq]; omega), rfl, rfl, rfl, rfl, by simp only [pair]; rw [hp.length_eq]; omega, by simp only [pair]; omega⟩
          unfold whole pair
          simp only [List.isEmpty_nil, Bool.true_and, decide_eq_true_eq]
          rw [hp.length_eq]; omega
      · rw [if_neg c2]
        left
        exact ⟨hst, fun d hd => hpr d (by simp [hd]), c2, fun d hd => hok d (by simp [hd]), hd, by simp [hu], rfl, rfl⟩

/-- a lexicon that is given rows -/
def begin' (ws : List Rw) : Lex := { empty with waiting := ws }

theorem work_stage (Q : Nat → ByteArray → Prop) (ws : List Rw) (hok : ∀ r ∈ ws, r.at' ≤ r.doc.size) (hQ : ∀ r ∈ ws, Q r.id r.doc) : ∀ u, Tak Q (all ws) u (work u (begin' ws)) ∨ Stage (all ws) u (work u (begin' ws))
  | 0 => by
    by_cases h : ws = []
    · subst h
      right; left
      exact ⟨rfl, List.Perm.refl _, fun i j a b _ h => by simp [begin', work, empty] at h, rfl, rfl, rfl, rfl, Nat.zero_le _, Nat.zero_le _⟩
    · left
      exact ⟨⟨rfl, rfl, rfl⟩, hQ, h, hok, rfl, rfl, rfl, rfl⟩
  | u + 1 => by
    show Tak _ _ _ (step (work u (begin' ws))) ∨ Stage _ _ (step (work u (begin' ws)))
    rcases work_stage Q ws hok hQ u with h | h | ⟨k, hk, h⟩
    · unfold step
      have hw : whole (work u (begin' ws)) = false := by
        unfold whole
        cases hh : (work u (begin' ws)).waiting with
        | nil => exact absurd hh h.wait
        | cons a b => rfl
      rw [hw, if_neg (by simp), if_neg h.wait]
      exact h.next
    · right; left
      unfold step
      rw [if_pos h.1]; exact h
    · right
      unfold step
      have hw : whole (work u (begin' ws)) = false := by
        unfold whole
        rw [h.wait, h.wid, h.perm.length_eq]
        simp; exact hk
      rw [hw, if_neg (by simp), if_pos h.wait]
      exact h.next hk

/-- behind so many units it is whole -/
theorem work_ready (ws : List Rw) (hok : ∀ r ∈ ws, r.at' ≤ r.doc.size) (B : Nat) (hB : (all ws).length ≤ 2 ^ B) (u : Nat) (hu : (all ws).length * (B + 1) ≤ u) : Ready (all ws) (work u (begin' ws)) := by
  rcases work_stage (fun _ _ => True) ws hok (fun _ _ => trivial) u with h | h | ⟨k, hk, h⟩
  · exfalso
    have h2 := h.units
    have h3 := congrArg List.length h.rest
    rw [List.length_append] at h3
    have h4 : 0 < (all (work u (begin' ws)).waiting).length := by
      cases hh : (work u (begin' ws)).waiting with
      | nil => exact absurd hh h.wait
      | cons a b =>
        have := h.ok a (by rw [hh]; simp)
        simp only [all, List.flatMap_cons, List.length_append]
        rw [tails_len a this]; omega
    rw [Nat.mul_add, Nat.mul_one] at hu
    omega
  · exact h
  · exfalso
    have hkB : k < B := by
      rcases Nat.lt_or_ge k B with hh | hh
      · exact hh
      · have := Nat.pow_le_pow_right (show 0 < 2 by decide) hh
        omega
    have h2 := h.units
    have h3 := h.short
    have h4 : fin (work u (begin' ws)) ≤ (all ws).length := by
      rw [← h.perm.length_eq]; unfold fin; omega
    have h5 : (k + 1) * (all ws).length ≤ B * (all ws).length := Nat.mul_le_mul_right _ hkB
    rw [Nat.add_mul, Nat.one_mul] at h5
    rw [Nat.mul_add, Nat.mul_one, Nat.mul_comm] at hu
    omega

end Go.Proofs.Ythkndfkkgncjfab.Lx

namespace Go.Proofs.Ythkndfkkgncjfab.Do

/-- those that aren't ahead of a place -/
def since (l : List Oc) (i t : Int) : List Oc := l.filter fun o => !before o i t
theorem since_append (a b : List Oc) (i t : Int) : since (a ++ b) i t = since a i t ++ since b i t := by simp [since]

theorem pageTo_eq (l : List Oc) (i t : Int) (m : Nat) : ∀ k, k ≤ l.length → pageTo l i t m k = ((since (l.take k) i t).take m, decide (m < (since (l.take k) i t).length))
  | 0, _ => by simp [pageTo, since]
  | k + 1, hk => by
    have ih := pageTo_eq l i t m k (by omega)
    have ho : l[k]? = some l[k] := List.getElem?_eq_getElem (by omega)
    rw [List.take_succ_eq_append_getElem (by omega), since_append]
    cases hb : before l[k] i t with
    | true =>
      rw [pageTo_skip l i t m k _ ho hb, ih]
      have : since [l[k]] i t = [] := by simp [since, hb]
      rw [this, List.append_nil]
    | false =>
      have e : since [l[k]] i t = [l[k]] := by simp [since, hb]
      rw [e]
      generalize since (l.take k) i t = F at *
      by_cases hm : (pageTo l i t m k).1.length = m
      · rw [pageTo_more l i t m k _ ho hb hm, ih]
        rw [ih] at hm
        simp only [List.length_take] at hm
        have hmF : m ≤ F.length := by omega
        rw [List.take_append_of_le_length hmF]
        simp; omega
      · rw [pageTo_put l i t m k _ ho hb hm, ih]
        rw [ih] at hm
        simp only [List.length_take] at hm
        have hmF : F.length < m := by omega
        rw [List.take_of_length_le (by omega), List.take_of_length_le (by simp; omega)]
        simp; omega
theorem page_eq (l : List Oc) (i t : Int) (m : Nat) : page l i t m = ((since l i t).take m, decide (m < (since l i t).length)) := by
  unfold page
  rw [pageTo_eq l i t m l.length (Nat.le_refl _), List.take_length]

/-- the least offset that isn't ahead of a place -/
def fst (c : Chg) (i t : Int) : Nat := if (c.id : Int) < i then c.doc.size + 1 else if (c.id : Int) = i ∧ 0 < t then t.toNat else 0

theorem pre_big (c : Chg) (p : List UInt8) (hp : p ≠ []) (k : Nat) (hk : c.doc.size ≤ k) : Fo.pre c.doc.data.toList p k = false := by
  have hl : c.doc.data.toList.length = c.doc.size := Array.length_toList
  have hp0 : 0 < p.length := by cases p with | nil => exact absurd rfl hp | cons => simp
  rcases Fo.pre_short c.doc.data.toList p k (by rw [hl]; omega) with h | h
  · exact h
  · exact absurd h hp
theorem hitsIn_big (c : Chg) (p : List UInt8) (hp : p ≠ []) : ∀ d, hitsIn c p (c.doc.size + d) = hitsIn c p c.doc.size
  | 0 => rfl
  | d + 1 => by
    rw [← Nat.add_assoc, hitsIn_miss c p _ (pre_big c p hp _ (by omega))]
    exact hitsIn_big c p hp d
theorem hitsIn_over (c : Chg) (p : List UInt8) (hp : p ≠ []) (k : Nat) (hk : c.doc.size ≤ k) : hitsIn c p k = hitsIn c p c.doc.size := by
  obtain ⟨d, rfl⟩ := Nat.le.dest hk
  exact hitsIn_big c p hp d

theorem since_fst (c : Chg) (p : List UInt8) (i t : Int) : ∀ k, k ≤ fst c i t → since (hitsIn c p k) i t = []
  | 0, _ => rfl
  | k + 1, hk => by
    have ih := since_fst c p i t k (by omega)
    cases h : Fo.pre c.doc.data.toList p k with
    | false => rw [hitsIn_miss c p k h]; exact ih
    | true =>
      rw [hitsIn_hit c p k h, since_append, ih]
      have hb : before ⟨c.id, k⟩ i t = true := by
        unfold fst at hk
        unfold before
        by_cases h1 : (c.id : Int) < i
        · simp [h1]
        · rw [if_neg h1] at hk
          by_cases h2 : (c.id : Int) = i ∧ 0 < t
          · rw [if_pos h2] at hk
            have : (k : Int) < t := by omega
            simp [h2.1, this]
          · rw [if_neg h2] at hk; omega
      simp [since, hb]
theorem not_before (c : Chg) (i t : Int) (k : Nat) (h1 : fst c i t ≤ k) (h2 : k ≤ c.doc.size) : before ⟨c.id, k⟩ i t = false := by
  unfold fst at h1
  unfold before
  by_cases e1 : (c.id : Int) < i
  · rw [if_pos e1] at h1; omega
  · rw [if_neg e1] at h1
    by_cases e2 : (c.id : Int) = i
    · by_cases e3 : 0 < t
      · rw [if_pos ⟨e2, e3⟩] at h1
        have : ¬ (k : Int) < t := by omega
        simp [e1, this]
      · have : ¬ (k : Int) < t := by omega
        simp [e1, this]
    · simp [e1, e2]

/-- what one walk keeps: at most n, those of the documents ahead and of this one's first k offsets -/
def some' (A : List Oc) (c : Chg) (p : List UInt8) (i t : Int) (n k : Nat) : List Oc := (since (A ++ hitsIn c p k) i t).take n
theorem some_start (A : List Oc) (c : Chg) (p : List UInt8) (i t : Int) (n : Nat) : some' A c p i t n (fst c i t) = (since A i t).take n := by
  unfold some'
  rw [since_append, since_fst c p i t _ (Nat.le_refl _), List.append_nil]
theorem some_miss (A : List Oc) (c : Chg) (p : List UInt8) (i t : Int) (n k : Nat) (h : Fo.pre c.doc.data.toList p k = false) : some' A c p i t n (k + 1) = some' A c p i t n k := by
  unfold some'; rw [hitsIn_miss c p k h]
theorem some_hit (A : List Oc) (c : Chg) (p : List UInt8) (i t : Int) (n k : Nat) (h : Fo.pre c.doc.data.toList p k = true) (h1 : fst c i t ≤ k) (h2 : k ≤ c.doc.size) (hn : (some' A c p i t n k).length < n) : some' A c p i t n (k + 1) = some' A c p i t n k ++ [⟨c.id, k⟩] := by
  unfold some' at *
  rw [hitsIn_hit c p k h, ← List.append_assoc, since_append (A ++ hitsIn c p k)]
  have hb := not_before c i t k h1 h2
  have e : since [(⟨c.id, k⟩ : Oc)] i t = [⟨c.id, k⟩] := by simp [since, hb]
  rw [e]
  rw [List.length_take] at hn
  rw [List.take_of_length_le (l := since (A ++ hitsIn c p k) i t) (by omega), List.take_of_length_le (by simp; omega)]
theorem some_over (A : List Oc) (c : Chg) (p : List UInt8) (hp : p ≠ []) (i t : Int) (n k : Nat) (hk : c.doc.size ≤ k) : some' A c p i t n k = (since (A ++ hitsIn c p c.doc.size) i t).take n := by
  unfold some'; rw [hitsIn_over c p hp k hk]
theorem hitsIn_prefix (c : Chg) (p : List UInt8) (k : Nat) : ∀ d, ∃ r, hitsIn c p (k + d) = hitsIn c p k ++ r
  | 0 => ⟨[], by simp⟩
  | d + 1 => by
    obtain ⟨r, hr⟩ := hitsIn_prefix c p k d
    rw [← Nat.add_assoc, hitsIn, hr, List.append_assoc]
    exact ⟨_, rfl⟩
theorem some_full (A : List Oc) (c : Chg) (p : List UInt8) (hp : p ≠ []) (i t : Int) (n k : Nat) (hn : n ≤ (some' A c p i t n k).length) : some' A c p i t n k = (since (A ++ hitsIn c p c.doc.size) i t).take n := by
  rcases Nat.le_total c.doc.size k with h | h
  · exact some_over A c p hp i t n k h
  · obtain ⟨d, hd⟩ := Nat.le.dest h
    obtain ⟨r, hr⟩ := hitsIn_prefix c p k d
    unfold some' at *
    rw [← hd, hr, ← List.append_assoc, since_append (A ++ hitsIn c p k)]
    rw [List.length_take] at hn
    rw [List.take_append_of_le_length (by omega)]
theorem some_len (A : List Oc) (c : Chg) (p : List UInt8) (i t : Int) (n k : Nat) : (some' A c p i t n k).length ≤ n := by unfold some'; rw [List.length_take]; omega
/-- the walk over the first j documents -/
def firsts (cs : List Chg) (p : List UInt8) (i t : Int) (n j : Nat) : List Oc := (since (hitsTo cs p j) i t).take n
theorem firsts_len (cs : List Chg) (p : List UInt8) (i t : Int) (n j : Nat) : (firsts cs p i t n j).length ≤ n := by unfold firsts; rw [List.length_take]; omega
theorem firsts_zero (cs : List Chg) (p : List UInt8) (i t : Int) (n : Nat) : firsts cs p i t n 0 = [] := by simp [firsts, hitsTo, since]
theorem firsts_succ (cs : List Chg) (p : List UInt8) (i t : Int) (n j : Nat) (c : Chg) (hc : cs[j]? = some c) : firsts cs p i t n (j + 1) = (since (hitsTo cs p j ++ hitsIn c p c.doc.size) i t).take n := by
  unfold firsts; rw [hitsTo_succ cs p j c hc]
theorem firsts_page (cs : List Chg) (p : List UInt8) (i t : Int) (m : Nat) : page (hits cs p) i t m = ((firsts cs p i t (m + 1) cs.length).take m, decide (m < (firsts cs p i t (m + 1) cs.length).length)) := by
  rw [page_eq]
  unfold firsts hits
  rw [List.take_take, Nat.min_eq_left (by omega), List.length_take]
  congr 1
  rw [decide_eq_decide]; omega

/-! counting -/
theorem hitsIn_cnt (c : Chg) (p : List UInt8) : ∀ k, (hitsIn c p k).length = Fo.cnt (Fo.pre c.doc.data.toList p) k
  | 0 => rfl
  | k + 1 => by
    rw [hitsIn, List.length_append, hitsIn_cnt c p k]
    show _ = Fo.cnt (Fo.pre c.doc.data.toList p) k + (if Fo.pre c.doc.data.toList p k then 1 else 0)
    split <;> rfl
theorem hitsIn_begun (c : Chg) (p : List UInt8) (hp : p ≠ []) : (hitsIn c p c.doc.size).length = Fo.begun c.doc.data.toList p := by
  unfold Fo.begun
  have hl : c.doc.data.toList.length = c.doc.size := Array.length_toList
  rw [hl, ← hitsIn_cnt, hitsIn_over c p hp (c.doc.size + 1) (by omega)]

/-! taking away -/
def without (cs : List Chg) (id : Int) (k : Nat) : List Chg := (cs.take k).filter fun d => !((d.id : Int) == id)
theorem without_len (cs : List Chg) (id : Int) (k : Nat) : (without cs id k).length ≤ k := by
  unfold without
  exact Nat.le_trans (List.length_filter_le _ _) (by rw [List.length_take]; omega)
theorem without_hit (cs : List Chg) (id : Int) (k : Nat) (c : Chg) (hc : cs[k]? = some c) (h : ¬ (c.id : Int) = id) : without cs id (k + 1) = without cs id k ++ [c] := by
  unfold without
  have hk : k < cs.length := by
    rcases Nat.lt_or_ge k cs.length with h | h
    · exact h
    · rw [List.getElem?_eq_none h] at hc; cases hc
  rw [List.take_succ_eq_append_getElem hk, List.filter_append]
  rw [List.getElem?_eq_getElem hk] at hc
  simp only [Option.some.injEq] at hc
  rw [hc]
  simp [h]
theorem without_miss (cs : List Chg) (id : Int) (k : Nat) (c : Chg) (hc : cs[k]? = some c) (h : (c.id : Int) = id) : without cs id (k + 1) = without cs id k := by
  unfold without
  have hk : k < cs.length := by
    rcases Nat.lt_or_ge k cs.length with h | h
    · exact h
    · rw [List.getElem?_eq_none h] at hc; cases hc
  rw [List.take_succ_eq_append_getElem hk, List.filter_append]
  rw [List.getElem?_eq_getElem hk] at hc
  simp only [Option.some.injEq] at hc
  rw [hc]
  simp [h]
theorem without_all (cs : List Chg) (id : Nat) : without cs (id : Int) cs.length = cs.filter fun d => !(id == d.id) := by
  unfold without
  rw [List.take_length]
  refine List.filter_congr fun d _ => ?_
  congr 1
  by_cases h : d.id = id
  · have h1 : (d.id : Int) = (id : Int) := by omega
    rw [h1, h]; simp
  · have h1 : ¬ (d.id : Int) = (id : Int) := by omega
    have h2 : ¬ id = d.id := by omega
    rw [beq_eq_false_iff_ne.2 h1, beq_eq_false_iff_ne.2 h2]

end Go.Proofs.Ythkndfkkgncjfab.Do

namespace Go.Proofs.Ythkndfkkgncjfab.Pa
open Do (Chg)

/-- a document in the parts -/
structure Pg where
  id : Nat
  doc : ByteArray
  dead : Bool
  out : Bool
def Pg.w (g : Pg) : Nat := g.doc.size + 1
def wt : List Pg → Nat
  | [] => 0
  | g :: r => g.w + wt r
theorem wt_append (a b : List Pg) : wt (a ++ b) = wt a + wt b := by
  induction a with
  | nil => simp [wt]
  | cons g r ih => show g.w + wt (r ++ b) = g.w + wt r + wt b; rw [ih]; omega
theorem wt_len (l : List Pg) : l.length ≤ wt l := by
  induction l with
  | nil => exact Nat.le_refl _
  | cons g r ih => show r.length + 1 ≤ g.w + wt r; unfold Pg.w; omega
def alive (l : List Pg) : List Pg := l.filter fun g => !g.dead
def dead (l : List Pg) : List Pg := l.filter fun g => g.dead
def next (l : List Pg) : List Pg := l.filter fun g => !g.out
theorem alive_append (a b : List Pg) : alive (a ++ b) = alive a ++ alive b := by simp [alive]
theorem dead_append (a b : List Pg) : dead (a ++ b) = dead a ++ dead b := by simp [dead]
theorem next_append (a b : List Pg) : next (a ++ b) = next a ++ next b := by simp [next]
theorem wt_split (l : List Pg) : wt (alive l) + wt (dead l) = wt l := by
  induction l with
  | nil => rfl
  | cons g r ih =>
    unfold alive dead at *
    rw [List.filter_cons, List.filter_cons]
    cases hd : g.dead
    · simp [wt]; omega
    · simp [wt]; omega
theorem wt_next (l : List Pg) : wt (next l) ≤ wt l := by
  induction l with
  | nil => exact Nat.le_refl _
  | cons g r ih =>
    unfold next at *
    rw [List.filter_cons]
    split
    · show g.w + _ ≤ g.w + _; omega
    · show _ ≤ g.w + _; omega
def die1 (id : Nat) (g : Pg) : Pg := if g.id = id then { g with dead := true } else g
def die (id : Nat) (l : List Pg) : List Pg := l.map (die1 id)
theorem die1_id (id : Nat) (g : Pg) : (die1 id g).id = g.id := by unfold die1; split <;> rfl
theorem die1_doc (id : Nat) (g : Pg) : (die1 id g).doc = g.doc := by unfold die1; split <;> rfl
theorem die1_out (id : Nat) (g : Pg) : (die1 id g).out = g.out := by unfold die1; split <;> rfl
theorem die1_dead (id : Nat) (g : Pg) : (die1 id g).dead = (g.dead || g.id == id) := by
  unfold die1
  by_cases h : g.id = id
  · rw [if_pos h]; simp [h]
  · rw [if_neg h]; simp [h]
theorem wt_die (id : Nat) (l : List Pg) : wt (die id l) = wt l := by
  induction l with
  | nil => rfl
  | cons g r ih => show (die1 id g).w + wt (die id r) = g.w + wt r; rw [ih]; unfold Pg.w; rw [die1_doc]
theorem next_die (id : Nat) (l : List Pg) : next (die id l) = die id (next l) := by
  unfold next die
  rw [List.filter_map]
  congr 1
  apply List.filter_congr
  intro g _
  simp [Function.comp, die1_out]

/-- the parts -/
structure Pt where
  main : List Pg
  frozen : List Pg
  live : List Pg
  left : Nat
  speed : Nat
  hand : Nat
  since : Nat
def zero : Pt := ⟨[], [], [], 0, 0, 0, 0⟩
def bits (n : Nat) : Nat := if n = 0 then 0 else Nat.log2 n + 1
def half (b : Nat) : Nat := max 1 (b / 2)
def due (b : Nat) (p : Pt) : Prop := b ≤ wt p.live ∨ wt p.main < 2 * wt (dead p.main)
instance (b : Nat) (p : Pt) : Decidable (due b p) := inferInstanceAs (Decidable (_ ∨ _))
def units (n : Nat) : Nat := (n + 1) * (bits n + 3)
def speedOf (b k : Nat) : Nat := (k + half b - 1) / half b
def mark (l : List Pg) : List Pg := l.map fun g => { g with out := g.dead }
def begin' (b : Nat) (p : Pt) : Pt :=
  { main := mark p.main, frozen := p.live, live := [], left := units (wt (alive p.main) + wt (alive p.live)), speed := speedOf b (units (wt (alive p.main) + wt (alive p.live))), hand := p.hand, since := 0 }
def handOver (p : Pt) : Pt := { p with main := next p.main ++ p.frozen, frozen := [], left := 0, hand := p.hand + 1, since := 0 }
def came (p : Pt) (c : Chg) : Pt :=
  if c.ins then { p with live := p.live ++ [⟨c.id, c.doc, false, false⟩] }
  else { p with live := p.live.filter (fun g => !(g.id == c.id)), main := die c.id p.main, frozen := die c.id p.frozen }
def worked (p : Pt) (w : Nat) : Pt :=
  if 0 < p.left then (if p.left ≤ p.speed * w then handOver p else { p with left := p.left - p.speed * w, since := p.since + w }) else p
def begun (b : Nat) (p : Pt) : Pt := if p.left = 0 ∧ due b p then begin' b p else p
def change (b : Nat) (p : Pt) (c : Chg) : Pt := begun b (worked (came p c) (c.doc.size + 1))
def parts (b : Nat) (cs : List Chg) : Pt := cs.foldl (change b) zero
theorem parts_more (b : Nat) (cs : List Chg) (c : Chg) : parts b (cs ++ [c]) = change b (parts b cs) c := by simp [parts]

def Pt.docs (p : Pt) : List Pg := p.main ++ p.frozen ++ p.live

/-- a document, its id -/
def chg (g : Pg) : Chg := ⟨true, g.doc, g.id⟩

theorem units_pos (n : Nat) : 3 ≤ units n := by
  unfold units
  have : 1 * 3 ≤ (n + 1) * (bits n + 3) := Nat.mul_le_mul (by omega) (by omega)
  omega
theorem half_pos (b : Nat) : 1 ≤ half b := by unfold half; omega
theorem speed_half (b k : Nat) : k ≤ speedOf b k * half b := by
  unfold speedOf
  have h1 := half_pos b
  have h2 := Nat.div_add_mod (k + half b - 1) (half b)
  have h3 := Nat.mod_lt (k + half b - 1) h1
  rw [Nat.mul_comm] at h2
  omega

/-- what holds of the parts behind all changes -/
structure Inv (b : Nat) (cs : List Chg) (N : Nat) (p : Pt) : Prop where
  there : (alive p.docs).map chg = Do.there cs
  rise : p.docs.Pairwise fun g h => g.id < h.id
  ids : ∀ g ∈ p.docs, g.id < N
  small : ∀ g ∈ p.docs, g.doc.size ≤ 40
  live : ∀ g ∈ p.live, g.dead = false ∧ g.out = false
  frozen : ∀ g ∈ p.frozen, g.out = false
  out : ∀ g ∈ p.main, g.out = true → g.dead = true
  off : p.left = 0 → p.frozen = [] ∧ (∀ g ∈ p.main, g.out = false) ∧ ¬ due b p ∧ p.since = 0
  on : 0 < p.left → p.left + p.speed * p.since = units (wt (next p.main) + wt p.frozen) ∧ p.speed = speedOf b (units (wt (next p.main) + wt p.frozen)) ∧ wt p.live ≤ p.since ∧ wt p.main + wt p.frozen ≤ 5200 ∧ wt (next p.main) + wt p.frozen ≤ 2460

theorem Inv.fast {b : Nat} {cs : List Chg} {N : Nat} {p : Pt} (h : Inv b cs N p) (ho : 0 < p.left) : p.since < half b := by
  obtain ⟨h1, h2, _⟩ := h.on ho
  have h3 := speed_half b (units (wt (next p.main) + wt p.frozen))
  rw [← h2] at h3
  rcases Nat.lt_or_ge p.since (half b) with h4 | h4
  · exact h4
  · have := Nat.mul_le_mul_left p.speed h4
    omega

theorem small_wt (l : List Pg) (k : Nat) (h : ∀ g ∈ l, g.doc.size ≤ 40) (hk : l.length ≤ k) : wt l ≤ 41 * k := by
  have : wt l ≤ 41 * l.length := by
    clear hk
    induction l with
    | nil => exact Nat.le_refl _
    | cons g r ih =>
      have h1 := h g (by simp)
      have h2 := ih (fun x hx => h x (by simp [hx]))
      show g.w + wt r ≤ 41 * (r.length + 1)
      unfold Pg.w; omega
  omega

theorem Inv.alive_wt {b : Nat} {cs : List Chg} {N : Nat} {p : Pt} (h : Inv b cs N p) (hl : (Do.there cs).length ≤ 60) : wt (alive p.docs) ≤ 2460 := by
  refine small_wt _ 60 (fun g hg => h.small g (List.mem_filter.1 hg).1) ?_
  have := congrArg List.length h.there
  rw [List.length_map] at this
  omega

theorem Inv.all_wt {b : Nat} {cs : List Chg} {N : Nat} {p : Pt} (h : Inv b cs N p) (hb : b ≤ 80) (hl : (Do.there cs).length ≤ 60) : wt p.docs ≤ 5300 := by
  have h1 := h.alive_wt hl
  unfold Pt.docs at *
  rw [wt_append, wt_append]
  rcases Nat.eq_zero_or_pos p.left with h0 | h0
  · obtain ⟨h2, _, h3, _⟩ := h.off h0
    have h4 := wt_split p.main
    rw [alive_append, alive_append, wt_append, wt_append] at h1
    unfold due at h3
    rw [h2]
    simp only [wt]
    omega
  · obtain ⟨_, _, h2, h3, _⟩ := h.on h0
    have h4 := h.fast h0
    have : half b ≤ 40 := by unfold half; omega
    omega

theorem Inv.start (b : Nat) (hb : 1 ≤ b) : Inv b [] 0 zero where
  there := rfl
  rise := List.Pairwise.nil
  ids := by intro g hg; cases hg
  small := by intro g hg; cases hg
  live := by intro g hg; cases hg
  frozen := by intro g hg; cases hg
  out := by intro g hg; cases hg
  off := fun _ => ⟨rfl, (by intro g hg; cases hg), by unfold due zero; simp [wt, dead]; omega, rfl⟩
  on := fun h => by cases h

theorem mark_wt (l : List Pg) : wt (mark l) = wt l := by
  induction l with
  | nil => rfl
  | cons g r ih => show g.w + wt (mark r) = g.w + wt r; rw [ih]
theorem mark_alive (l : List Pg) : (alive (mark l)).map chg = (alive l).map chg := by
  unfold alive mark
  rw [List.filter_map, List.map_map]
  rfl
theorem mark_dead (l : List Pg) : wt (dead (mark l)) = wt (dead l) := by
  unfold dead mark
  rw [List.filter_map]
  exact mark_wt _
theorem mark_next (l : List Pg) : next (mark l) = mark (alive l) := by
  unfold next mark alive
  rw [List.filter_map]; rfl
theorem alive_id (l : List Pg) (h : ∀ g ∈ l, g.dead = false) : alive l = l := List.filter_eq_self.2 fun g hg => by rw [h g hg]; rfl
theorem next_id (l : List Pg) (h : ∀ g ∈ l, g.out = false) : next l = l := List.filter_eq_self.2 fun g hg => by rw [h g hg]; rfl

theorem pair_map {f : Pg → Pg} (hf : ∀ g, (f g).id = g.id) {l : List Pg} (h : l.Pairwise fun g h => g.id < h.id) : (l.map f).Pairwise fun g h => g.id < h.id := by
  rw [List.pairwise_map]
  exact h.imp fun {a b} hab => by rw [hf, hf]; exact hab

/-- behind the first of the three things (and the second): what holds then -/
structure Mid (b : Nat) (cs : List Chg) (N : Nat) (p : Pt) : Prop where
  there : (alive p.docs).map chg = Do.there cs
  rise : p.docs.Pairwise fun g h => g.id < h.id
  ids : ∀ g ∈ p.docs, g.id < N
  small : ∀ g ∈ p.docs, g.doc.size ≤ 40
  live : ∀ g ∈ p.live, g.dead = false ∧ g.out = false
  frozen : ∀ g ∈ p.frozen, g.out = false
  out : ∀ g ∈ p.main, g.out = true → g.dead = true
  off : p.left = 0 → p.frozen = [] ∧ (∀ g ∈ p.main, g.out = false) ∧ p.since = 0 ∧ wt p.main + wt p.live ≤ 5200

theorem Mid.settle {b : Nat} {cs : List Chg} {N : Nat} {p : Pt} (h : Mid b cs N p) (hl : (Do.there cs).length ≤ 60)
    (hon : 0 < p.left → p.left + p.speed * p.since = units (wt (next p.main) + wt p.frozen) ∧ p.speed = speedOf b (units (wt (next p.main) + wt p.frozen)) ∧ wt p.live ≤ p.since ∧ wt p.main + wt p.frozen ≤ 5200 ∧ wt (next p.main) + wt p.frozen ≤ 2460) : Inv b cs N (begun b p) := by
  unfold Pa.begun
  by_cases c : p.left = 0 ∧ due b p
  · rw [if_pos c]
    obtain ⟨o1, o2, o3, o4⟩ := h.off c.1
    have hal : alive p.live = p.live := alive_id _ fun g hg => (h.live g hg).1
    have hth : (alive p.docs).map chg = (alive p.main).map chg ++ p.live.map chg := by
      unfold Pt.docs
      rw [o1, List.append_nil, alive_append, List.map_append, hal]
    have hw : wt (alive p.main) + wt p.live ≤ 2460 := by
      rw [← wt_append]
      refine small_wt _ 60 (fun g hg => ?_) ?_
      · rw [List.mem_append] at hg
        refine h.small g ?_
        unfold Pt.docs
        rw [o1, List.append_nil, List.mem_append]
        exact hg.imp (fun h => (List.mem_filter.1 h).1) (fun h => h)
      · have h1 := congrArg List.length h.there
        rw [hth] at h1
        simp only [List.length_append, List.length_map] at h1 ⊢
        omega
    have hd : (begin' b p).docs = mark p.main ++ p.live := by unfold Pt.docs begin'; simp
    have hpd : p.docs = p.main ++ p.live := by unfold Pt.docs; rw [o1, List.append_nil]
    have hnx : wt (next (mark p.main)) = wt (alive p.main) := by rw [mark_next, mark_wt]
    refine ⟨?_, ?_, ?_, ?_, ?_, ?_, ?_, ?_, ?_⟩
    · rw [hd, alive_append, List.map_append, mark_alive, hal, ← hth]; exact h.there
    · have hr := h.rise
      rw [hpd] at hr
      rw [hd]
      rw [List.pairwise_append] at hr ⊢
      refine ⟨pair_map (f := fun g => { g with out := g.dead }) (fun _ => rfl) hr.1, hr.2.1, fun g hg k hk => ?_⟩
      unfold mark at hg
      rw [List.mem_map] at hg
      obtain ⟨g', hg', rfl⟩ := hg
      exact hr.2.2 g' hg' k hk
    · intro g hg
      have hi := h.ids
      rw [hpd] at hi
      rw [hd, List.mem_append] at hg
      rcases hg with hg | hg
      · unfold mark at hg
        rw [List.mem_map] at hg
        obtain ⟨g', hg', rfl⟩ := hg
        exact hi g' (List.mem_append_left _ hg')
      · exact hi g (List.mem_append_right _ hg)
    · intro g hg
      have hi := h.small
      rw [hpd] at hi
      rw [hd, List.mem_append] at hg
      rcases hg with hg | hg
      · unfold mark at hg
        rw [List.mem_map] at hg
        obtain ⟨g', hg', rfl⟩ := hg
        exact hi g' (List.mem_append_left _ hg')
      · exact hi g (List.mem_append_right _ hg)
    · intro g hg; cases hg
    · intro g hg; exact (h.live g hg).2
    · intro g hg ho
      have hg' : g ∈ mark p.main := hg
      unfold mark at hg'
      rw [List.mem_map] at hg'
      obtain ⟨g', _, rfl⟩ := hg'
      exact ho
    · intro h0
      have := units_pos (wt (alive p.main) + wt (alive p.live))
      have h0' : units (wt (alive p.main) + wt (alive p.live)) = 0 := h0
      omega
    · intro _
      show units (wt (alive p.main) + wt (alive p.live)) + _ * 0 = units (wt (next (mark p.main)) + wt p.live) ∧ speedOf b (units (wt (alive p.main) + wt (alive p.live))) = speedOf b (units (wt (next (mark p.main)) + wt p.live)) ∧ 0 ≤ 0 ∧ wt (mark p.main) + wt p.live ≤ 5200 ∧ wt (next (mark p.main)) + wt p.live ≤ 2460
      rw [hnx, hal, mark_wt]
      exact ⟨by omega, rfl, Nat.le_refl _, o4, hw⟩
  · rw [if_neg c]
    exact { there := h.there, rise := h.rise, ids := h.ids, small := h.small, live := h.live, frozen := h.frozen, out := h.out, off := fun h0 => ⟨(h.off h0).1, (h.off h0).2.1, fun hd => c ⟨h0, hd⟩, (h.off h0).2.2.1⟩, on := hon }


/-- how it stands behind the first thing -/
structure Came (b : Nat) (cs : List Chg) (N w : Nat) (p : Pt) : Prop where
  there : (alive p.docs).map chg = Do.there cs
  rise : p.docs.Pairwise fun g h => g.id < h.id
  ids : ∀ g ∈ p.docs, g.id < N
  small : ∀ g ∈ p.docs, g.doc.size ≤ 40
  live : ∀ g ∈ p.live, g.dead = false ∧ g.out = false
  frozen : ∀ g ∈ p.frozen, g.out = false
  out : ∀ g ∈ p.main, g.out = true → g.dead = true
  off : p.left = 0 → p.frozen = [] ∧ (∀ g ∈ p.main, g.out = false) ∧ p.since = 0 ∧ wt p.main + wt p.live ≤ 5200
  on : 0 < p.left → p.since < half b ∧ p.left + p.speed * p.since = units (wt (next p.main) + wt p.frozen) ∧ p.speed = speedOf b (units (wt (next p.main) + wt p.frozen)) ∧ wt p.live ≤ p.since + w ∧ wt p.main + wt p.frozen ≤ 5200 ∧ wt (next p.main) + wt p.frozen ≤ 2460

theorem alive_die (id : Nat) (l : List Pg) : (alive (die id l)).map chg = ((alive l).map chg).filter fun d => !(id == d.id) := by
  unfold alive die
  rw [List.filter_map, List.map_map, List.filter_map, List.filter_filter]
  have : (l.filter ((fun g => !g.dead) ∘ die1 id)) = l.filter fun g => ((fun d : Chg => !(id == d.id)) ∘ chg) g && !g.dead := by
    apply List.filter_congr
    intro g _
    show (!(die1 id g).dead) = ((!(id == g.id)) && !g.dead)
    rw [die1_dead]
    have : (g.id == id) = (id == g.id) := BEq.comm
    rw [this]
    cases g.dead <;> cases (id == g.id) <;> rfl
  rw [this]
  apply List.map_congr_left
  intro g _
  show chg (die1 id g) = chg g
  unfold chg
  rw [die1_doc, die1_id]
theorem die_mem {id : Nat} {l : List Pg} {g : Pg} (h : g ∈ die id l) : ∃ g' ∈ l, g.id = g'.id ∧ g.doc = g'.doc ∧ g.out = g'.out ∧ (g'.dead = true → g.dead = true) := by
  unfold die at h
  rw [List.mem_map] at h
  obtain ⟨g', hg', rfl⟩ := h
  exact ⟨g', hg', die1_id _ _, die1_doc _ _, die1_out _ _, fun h => by rw [die1_dead, h]; rfl⟩
theorem wt_filter (f : Pg → Bool) (l : List Pg) : wt (l.filter f) ≤ wt l := by
  induction l with
  | nil => exact Nat.le_refl _
  | cons g r ih =>
    rw [List.filter_cons]
    split
    · show g.w + _ ≤ g.w + _; omega
    · show _ ≤ g.w + _; omega

theorem Inv.came_ins {b : Nat} {cs : List Chg} {N : Nat} {p : Pt} (h : Inv b cs N p) (hb : b ≤ 80) (hl : (Do.there cs).length ≤ 60) (s : ByteArray) (hs : s.size ≤ 40) : Came b (cs ++ [⟨true, s, N⟩]) (N + 1) (s.size + 1) (came p ⟨true, s, N⟩) := by
  have hd : (came p ⟨true, s, N⟩).docs = p.docs ++ [⟨N, s, false, false⟩] := by unfold came Pt.docs; simp
  have hlv : (came p ⟨true, s, N⟩).live = p.live ++ [⟨N, s, false, false⟩] := rfl
  have hwl : wt (came p ⟨true, s, N⟩).live = wt p.live + (s.size + 1) := by rw [hlv, wt_append]; rfl
  have hall := h.all_wt hb hl
  unfold Pt.docs at hall
  rw [wt_append, wt_append] at hall
  refine ⟨?_, ?_, ?_, ?_, ?_, h.frozen, h.out, ?_, ?_⟩
  · rw [hd, alive_append, List.map_append, h.there, Do.there_ins _ _ rfl]; rfl
  · rw [hd, List.pairwise_append]
    refine ⟨h.rise, List.pairwise_singleton _ _, fun g hg k hk => ?_⟩
    simp at hk; subst hk
    exact h.ids g hg
  · intro g hg
    rw [hd, List.mem_append] at hg
    rcases hg with hg | hg
    · have := h.ids g hg; omega
    · simp at hg; subst hg; show N < N + 1; omega
  · intro g hg
    rw [hd, List.mem_append] at hg
    rcases hg with hg | hg
    · exact h.small g hg
    · simp at hg; subst hg; exact hs
  · intro g hg
    rw [hlv, List.mem_append] at hg
    rcases hg with hg | hg
    · exact h.live g hg
    · simp at hg; subst hg; exact ⟨rfl, rfl⟩
  · intro h0
    have h0' : p.left = 0 := h0
    obtain ⟨o1, o2, o3, o4⟩ := h.off h0'
    refine ⟨o1, o2, o4, ?_⟩
    rw [hwl]
    show wt p.main + _ ≤ _
    have ha := h.alive_wt hl
    unfold Pt.docs at ha
    rw [alive_append, alive_append, wt_append, wt_append] at ha
    have hsp := wt_split p.main
    unfold due at o3
    omega
  · intro h0
    have h0' : 0 < p.left := h0
    obtain ⟨o1, o2, o3, o4, o5⟩ := h.on h0'
    refine ⟨h.fast h0', o1, o2, ?_, o4, o5⟩
    rw [hwl]
    show _ ≤ p.since + _
    omega

theorem Inv.came_del {b : Nat} {cs : List Chg} {N : Nat} {p : Pt} (h : Inv b cs N p) (hb : b ≤ 80) (hl : (Do.there cs).length ≤ 60) (s : ByteArray) (id : Nat) : Came b (cs ++ [⟨false, s, id⟩]) N (s.size + 1) (came p ⟨false, s, id⟩) := by
  have hm : (came p ⟨false, s, id⟩).main = die id p.main := rfl
  have hf : (came p ⟨false, s, id⟩).frozen = die id p.frozen := rfl
  have hv : (came p ⟨false, s, id⟩).live = p.live.filter (fun g => !(g.id == id)) := rfl
  have hd : (came p ⟨false, s, id⟩).docs = die id p.main ++ die id p.frozen ++ p.live.filter (fun g => !(g.id == id)) := rfl
  have hal : ∀ l : List Pg, (∀ g ∈ l, g.dead = false) → (alive (l.filter (fun g => !(g.id == id)))).map chg = ((alive l).map chg).filter fun d => !(id == d.id) := fun l hl => by
    rw [alive_id _ (fun g hg => hl g (List.mem_filter.1 hg).1), alive_id _ hl, List.filter_map]
    congr 1
    apply List.filter_congr
    intro g _
    show (!(g.id == id)) = !(id == g.id)
    congr 1
    exact BEq.comm
  have hmem : ∀ g ∈ (came p ⟨false, s, id⟩).docs, ∃ g' ∈ p.docs, g.id = g'.id ∧ g.doc = g'.doc := fun g hg => by
    rw [hd, List.mem_append, List.mem_append] at hg
    unfold Pt.docs
    rcases hg with (hg | hg) | hg
    · obtain ⟨g', h1, h2, h3, _⟩ := die_mem hg
      exact ⟨g', by simp [h1], h2, h3⟩
    · obtain ⟨g', h1, h2, h3, _⟩ := die_mem hg
      exact ⟨g', by simp [h1], h2, h3⟩
    · have := (List.mem_filter.1 hg).1
      exact ⟨g, by simp [this], rfl, rfl⟩
  have hfl := wt_filter (fun g => !(g.id == id)) p.live
  refine ⟨?_, ?_, ?_, ?_, ?_, ?_, ?_, ?_, ?_⟩
  · rw [hd, alive_append, alive_append, List.map_append, List.map_append, alive_die, alive_die, hal _ (fun g hg => (h.live g hg).1), Do.there_del _ _ rfl, ← h.there]
    unfold Pt.docs
    rw [alive_append, alive_append, List.map_append, List.map_append, List.filter_append, List.filter_append]
  · have hr := h.rise
    unfold Pt.docs at hr
    have e : (came p ⟨false, s, id⟩).docs = (die id p.main ++ die id p.frozen) ++ p.live.filter (fun g => !(g.id == id)) := rfl
    rw [e]
    rw [List.pairwise_append] at hr ⊢
    obtain ⟨r1, r2, r3⟩ := hr
    refine ⟨?_, r2.filter _, fun g hg k hk => ?_⟩
    · unfold die; rw [← List.map_append]; exact pair_map (die1_id id) r1
    · have hk' := (List.mem_filter.1 hk).1
      unfold die at hg
      rw [← List.map_append, List.mem_map] at hg
      obtain ⟨g', hg', rfl⟩ := hg
      rw [die1_id]
      exact r3 g' hg' k hk'
  · intro g hg
    obtain ⟨g', h1, h2, _⟩ := hmem g hg
    rw [h2]; exact h.ids g' h1
  · intro g hg
    obtain ⟨g', h1, _, h2⟩ := hmem g hg
    rw [h2]; exact h.small g' h1
  · intro g hg
    rw [hv] at hg
    exact h.live g (List.mem_filter.1 hg).1
  · intro g hg
    rw [hf] at hg
    obtain ⟨g', h1, _, _, h3, _⟩ := die_mem hg
    rw [h3]; exact h.frozen g' h1
  · intro g hg ho
    rw [hm] at hg
    obtain ⟨g', h1, _, _, h3, h4⟩ := die_mem hg
    exact h4 (h.out g' h1 (by rw [← h3]; exact ho))
  · intro h0
    have h0' : p.left = 0 := h0
    obtain ⟨o1, o2, o3, o4⟩ := h.off h0'
    refine ⟨by rw [hf, o1]; rfl, ?_, o4, ?_⟩
    · intro g hg
      rw [hm] at hg
      obtain ⟨g', h1, _, _, h3, _⟩ := die_mem hg
      rw [h3]; exact o2 g' h1
    · rw [hm, hv, wt_die]
      have ha := h.alive_wt hl
      unfold Pt.docs at ha
      rw [alive_append, alive_append, wt_append, wt_append] at ha
      have hsp := wt_split p.main
      unfold due at o3
      omega
  · intro h0
    have h0' : 0 < p.left := h0
    obtain ⟨o1, o2, o3, o4, o5⟩ := h.on h0'
    rw [hm, hf, hv, next_die, wt_die, wt_die, wt_die]
    refine ⟨h.fast h0', o1, o2, ?_, o4, o5⟩
    show _ ≤ p.since + _
    omega

theorem Came.worked {b : Nat} {cs : List Chg} {N w : Nat} {p : Pt} (h : Came b cs N w p) (hb : b ≤ 80) (hw : w ≤ 41) (hl : (Do.there cs).length ≤ 60) : Inv b cs N (begun b (worked p w)) := by
  unfold Pa.worked
  by_cases c1 : 0 < p.left
  · rw [if_pos c1]
    obtain ⟨o0, o1, o2, o3, o4, o5⟩ := h.on c1
    by_cases c2 : p.left ≤ p.speed * w
    · rw [if_pos c2]
      have hd : (handOver p).docs = next p.main ++ p.frozen ++ p.live := by unfold handOver Pt.docs; simp
      have hsub : (handOver p).docs.Sublist p.docs := by
        rw [hd]
        exact ((List.filter_sublist).append (List.Sublist.refl _)).append (List.Sublist.refl _)
      have hhf : half b ≤ 40 := by unfold half; omega
      refine Mid.settle ⟨?_, ?_, ?_, ?_, h.live, ?_, ?_, ?_⟩ hl ?_
      · rw [← h.there, hd]
        unfold Pt.docs
        simp only [alive_append]
        congr 3
        unfold alive next
        rw [List.filter_filter]
        apply List.filter_congr
        intro g hg
        have := h.out g hg
        cases ho : g.out
        · simp
        · rw [this ho]; rfl
      · exact h.rise.sublist hsub
      · exact fun g hg => h.ids g (hsub.subset hg)
      · exact fun g hg => h.small g (hsub.subset hg)
      · intro g hg; cases hg
      · intro g hg ho
        have hg' : g ∈ next p.main ++ p.frozen := hg
        rw [List.mem_append] at hg'
        rcases hg' with hg' | hg'
        · have := (List.mem_filter.1 hg').2
          rw [ho] at this; cases this
        · rw [h.frozen g hg'] at ho; cases ho
      · intro _
        refine ⟨rfl, ?_, rfl, ?_⟩
        · intro g hg
          have hg' : g ∈ next p.main ++ p.frozen := hg
          rw [List.mem_append] at hg'
          rcases hg' with hg' | hg'
          · have := (List.mem_filter.1 hg').2
            simpa using this
          · exact h.frozen g hg'
        · show wt (next p.main ++ p.frozen) + wt p.live ≤ 5200
          rw [wt_append]; omega
      · intro h0
        have h0' : 0 < 0 := h0
        omega
    · rw [if_neg c2]
      refine Mid.settle ⟨h.there, h.rise, h.ids, h.small, h.live, h.frozen, h.out, ?_⟩ hl ?_
      · intro h0
        have h0' : p.left - p.speed * w = 0 := h0
        omega
      · intro _
        show p.left - p.speed * w + p.speed * (p.since + w) = units (wt (next p.main) + wt p.frozen) ∧ p.speed = speedOf b (units (wt (next p.main) + wt p.frozen)) ∧ wt p.live ≤ p.since + w ∧ wt p.main + wt p.frozen ≤ 5200 ∧ wt (next p.main) + wt p.frozen ≤ 2460
        refine ⟨?_, o2, o3, o4, o5⟩
        rw [Nat.mul_add]; omega
  · rw [if_neg c1]
    refine Mid.settle ⟨h.there, h.rise, h.ids, h.small, h.live, h.frozen, h.out, h.off⟩ hl ?_
    intro h0; omega

theorem Inv.insert {b : Nat} {cs : List Chg} {N : Nat} (h : Inv b cs N (parts b cs)) (hb : b ≤ 80) (hl : (Do.there cs).length < 60) (s : ByteArray) (hs : s.size ≤ 40) : Inv b (cs ++ [⟨true, s, N⟩]) (N + 1) (parts b (cs ++ [⟨true, s, N⟩])) := by
  rw [parts_more]
  exact (h.came_ins hb (by omega) s hs).worked hb (by omega) (by rw [Do.there_ins _ _ rfl]; simp; omega)
theorem Inv.delete {b : Nat} {cs : List Chg} {N : Nat} (h : Inv b cs N (parts b cs)) (hb : b ≤ 80) (hl : (Do.there cs).length ≤ 60) (s : ByteArray) (hs : s.size ≤ 40) (id : Nat) : Inv b (cs ++ [⟨false, s, id⟩]) N (parts b (cs ++ [⟨false, s, id⟩])) := by
  rw [parts_more]
  exact (h.came_del hb hl s id).worked hb (by omega) (by rw [Do.there_del _ _ rfl]; exact Nat.le_trans (List.length_filter_le _ _) hl)

end Go.Proofs.Ythkndfkkgncjfab.Pa

namespace Go.Proofs.Ythkndfkkgncjfab.Do

/-- the bytes of what went, the first k having been looked at -/
def remTo (L : List Chg) (id : Int) : Nat → Nat
  | 0 => 0
  | k + 1 => remTo L id k + (match L[k]? with | none => 0 | some c => if (c.id : Int) = id then c.doc.size else 0)
/-- the weight of what went last -/
def movTo (L : List Chg) (id mv : Int) : Nat → Int
  | 0 => mv
  | k + 1 => match L[k]? with | none => movTo L id mv k | some c => if (c.id : Int) = id then (c.doc.size : Int) + 1 else movTo L id mv k
def anyTo (L : List Chg) (id : Int) : Nat → Bool
  | 0 => false
  | k + 1 => anyTo L id k || (match L[k]? with | none => false | some c => (c.id : Int) == id)
theorem remTo_hit (L : List Chg) (id : Int) (k : Nat) (c : Chg) (h : L[k]? = some c) (he : (c.id : Int) = id) : remTo L id (k + 1) = remTo L id k + c.doc.size := by rw [remTo, h]; simp only; rw [if_pos he]
theorem remTo_miss (L : List Chg) (id : Int) (k : Nat) (c : Chg) (h : L[k]? = some c) (he : ¬ (c.id : Int) = id) : remTo L id (k + 1) = remTo L id k := by rw [remTo, h]; simp only; rw [if_neg he]; rfl
theorem movTo_hit (L : List Chg) (id mv : Int) (k : Nat) (c : Chg) (h : L[k]? = some c) (he : (c.id : Int) = id) : movTo L id mv (k + 1) = (c.doc.size : Int) + 1 := by rw [movTo, h]; simp only; rw [if_pos he]
theorem movTo_miss (L : List Chg) (id mv : Int) (k : Nat) (c : Chg) (h : L[k]? = some c) (he : ¬ (c.id : Int) = id) : movTo L id mv (k + 1) = movTo L id mv k := by rw [movTo, h]; simp only; rw [if_neg he]
theorem anyTo_hit (L : List Chg) (id : Int) (k : Nat) (c : Chg) (h : L[k]? = some c) (he : (c.id : Int) = id) : anyTo L id (k + 1) = true := by rw [anyTo, h]; simp [he]
theorem anyTo_miss (L : List Chg) (id : Int) (k : Nat) (c : Chg) (h : L[k]? = some c) (he : ¬ (c.id : Int) = id) : anyTo L id (k + 1) = anyTo L id k := by rw [anyTo, h]; simp [he]
theorem sizes_append (L : List Chg) (c : Chg) : size (L ++ [c]) = size L + c.doc.size := by
  have h : ∀ k, k ≤ L.length → sizeTo (L ++ [c]) k = sizeTo L k := by
    intro k
    induction k with
    | zero => intro _; rfl
    | succ k ih =>
      intro hk
      rw [sizeTo, sizeTo, ih (by omega), List.getElem?_append_left (by omega)]
  unfold size
  rw [List.length_append, List.length_singleton, sizeTo_succ _ _ c (by simp), h _ (Nat.le_refl _)]
theorem size_without (L : List Chg) (id : Int) : ∀ k, k ≤ L.length → size (without L id k) + remTo L id k = sizeTo L k
  | 0, _ => rfl
  | k + 1, hk => by
    have hc : L[k]? = some L[k] := List.getElem?_eq_getElem (by omega)
    have ih := size_without L id k (by omega)
    rw [sizeTo_succ L k _ hc]
    by_cases he : (L[k].id : Int) = id
    · rw [without_miss L id k _ hc he, remTo_hit L id k _ hc he]; omega
    · rw [without_hit L id k _ hc he, remTo_miss L id k _ hc he, sizes_append]; omega
theorem rem_le (L : List Chg) (id : Int) : ∀ k, k ≤ L.length → remTo L id k ≤ sizeTo L k := fun k hk => by have := size_without L id k hk; omega
theorem sizeTo_mono (L : List Chg) : ∀ k j, k ≤ j → sizeTo L k ≤ sizeTo L j := fun k j h => by
  obtain ⟨d, rfl⟩ := Nat.le.dest h
  induction d with
  | zero => exact Nat.le_refl _
  | succ d ih =>
    have := ih (by omega)
    rw [← Nat.add_assoc, sizeTo]; omega
theorem any_none (L : List Chg) (id : Int) (h : at? L id = none) : ∀ k, anyTo L id k = false
  | 0 => rfl
  | k + 1 => by
    have ih := any_none L id h k
    unfold at? at h
    rw [List.findIdx?_eq_none_iff] at h
    rw [anyTo, ih]
    cases hc : L[k]? with
    | none => rfl
    | some c => have := h c (List.mem_of_getElem? hc); simpa using this
theorem any_some (L : List Chg) (id : Int) (j : Nat) (c : Chg) (hc : L[j]? = some c) (he : (c.id : Int) = id) : ∀ k, j < k → anyTo L id k = true
  | 0, h => by omega
  | k + 1, h => by
    rw [anyTo]
    rcases Nat.lt_or_ge j k with h1 | h1
    · rw [any_some L id j c hc he k h1]; rfl
    · have : j = k := by omega
      subst this
      rw [hc]; simp [he]

end Go.Proofs.Ythkndfkkgncjfab.Do

namespace Go.Proofs.Ythkndfkkgncjfab.Do

def olt (o q : Oc) : Prop := o.id < q.id ∨ (o.id = q.id ∧ o.at' < q.at')

theorem hitsIn_mem (c : Chg) (p : List UInt8) : ∀ k, ∀ o ∈ hitsIn c p k, o.id = c.id ∧ o.at' < k
  | 0, o, h => by simp [hitsIn] at h
  | k + 1, o, h => by
    rw [hitsIn, List.mem_append] at h
    rcases h with h | h
    · have := hitsIn_mem c p k o h; exact ⟨this.1, by omega⟩
    · split at h
      · simp at h; subst h; exact ⟨rfl, Nat.lt_succ_self _⟩
      · simp at h
theorem hitsIn_rise (c : Chg) (p : List UInt8) : ∀ k, (hitsIn c p k).Pairwise olt
  | 0 => List.Pairwise.nil
  | k + 1 => by
    rw [hitsIn, List.pairwise_append]
    refine ⟨hitsIn_rise c p k, ?_, ?_⟩
    · split
      · exact List.pairwise_singleton _ _
      · exact List.Pairwise.nil
    · intro o ho q hq
      split at hq
      · simp at hq; subst hq
        have := hitsIn_mem c p k o ho
        exact .inr ⟨this.1, this.2⟩
      · simp at hq
theorem hitsTo_mem (L : List Chg) (p : List UInt8) : ∀ j, ∀ o ∈ hitsTo L p j, ∃ i c, i < j ∧ L[i]? = some c ∧ o.id = c.id ∧ o.at' < c.doc.size
  | 0, o, h => by simp [hitsTo] at h
  | j + 1, o, h => by
    rw [hitsTo, List.mem_append] at h
    rcases h with h | h
    · obtain ⟨i, c, h1, h2, h3⟩ := hitsTo_mem L p j o h
      exact ⟨i, c, by omega, h2, h3⟩
    · cases hc : L[j]? with
      | none => rw [hc] at h; simp at h
      | some c =>
        rw [hc] at h
        have := hitsIn_mem c p c.doc.size o h
        exact ⟨j, c, by omega, hc, this.1, this.2⟩
theorem rise_get (L : List Chg) (h : L.Pairwise fun c d => c.id < d.id) (i j : Nat) (c d : Chg) (hi : L[i]? = some c) (hj : L[j]? = some d) (hij : i < j) : c.id < d.id := by
  have hjl : j < L.length := by
    rcases Nat.lt_or_ge j L.length with h | h
    · exact h
    · rw [List.getElem?_eq_none h] at hj; cases hj
  rw [List.getElem?_eq_getElem (by omega)] at hi
  rw [List.getElem?_eq_getElem hjl] at hj
  simp only [Option.some.injEq] at hi hj
  rw [← hi, ← hj]
  exact List.pairwise_iff_getElem.1 h i j (by omega) hjl hij
theorem hitsTo_rise (L : List Chg) (p : List UInt8) (h : L.Pairwise fun c d => c.id < d.id) : ∀ j, (hitsTo L p j).Pairwise olt
  | 0 => List.Pairwise.nil
  | j + 1 => by
    rw [hitsTo, List.pairwise_append]
    refine ⟨hitsTo_rise L p h j, ?_, ?_⟩
    · split
      · exact List.Pairwise.nil
      · exact hitsIn_rise _ _ _
    · intro o ho q hq
      cases hc : L[j]? with
      | none => rw [hc] at hq; simp at hq
      | some c =>
        rw [hc] at hq
        obtain ⟨i, d, hi, hd, e1, _⟩ := hitsTo_mem L p j o ho
        have := hitsIn_mem c p c.doc.size q hq
        left
        rw [e1, this.1]
        exact rise_get L h i j d c hd hc hi
theorem hits_rise (L : List Chg) (p : List UInt8) (h : L.Pairwise fun c d => c.id < d.id) : (hits L p).Pairwise olt := hitsTo_rise L p h _
theorem hitsTo_size (L : List Chg) (p : List UInt8) : ∀ j, (hitsTo L p j).length ≤ sizeTo L j
  | 0 => Nat.le_refl _
  | j + 1 => by
    have ih := hitsTo_size L p j
    rw [hitsTo, List.length_append, sizeTo]
    cases hc : L[j]? with
    | none => simp; omega
    | some c => have := hitsIn_len c p c.doc.size; simp only; omega
theorem hits_size (L : List Chg) (p : List UInt8) : (hits L p).length ≤ size L := hitsTo_size L p _

theorem since_zero (l : List Oc) : since l 0 0 = l := by
  unfold since
  rw [List.filter_eq_self]
  intro o _
  have h1 : ¬ (o.id : Int) < 0 := by omega
  have h2 : ¬ (o.at' : Int) < 0 := by omega
  simp [before, h1, h2]
theorem since_next (l : List Oc) (h : l.Pairwise olt) (j : Nat) (o : Oc) (ho : l[j]? = some o) : since l (o.id : Int) ((o.at' : Int) + 1) = l.drop (j + 1) := by
  have hj : j < l.length := by
    rcases Nat.lt_or_ge j l.length with h | h
    · exact h
    · rw [List.getElem?_eq_none h] at ho; cases ho
  have ho' : l[j] = o := by rw [List.getElem?_eq_getElem hj] at ho; simpa using ho
  have hp := List.pairwise_iff_getElem.1 h
  conv => lhs; rw [← List.take_append_drop (j + 1) l]
  rw [since_append]
  have e1 : since (l.take (j + 1)) (o.id : Int) ((o.at' : Int) + 1) = [] := by
    unfold since
    rw [List.filter_eq_nil_iff]
    intro q hq
    obtain ⟨i, hi, rfl⟩ := List.mem_iff_getElem.1 hq
    rw [List.length_take] at hi
    rw [List.getElem_take]
    have hb : before l[i] (o.id : Int) ((o.at' : Int) + 1) = true := by
      unfold before
      rcases Nat.lt_or_ge i j with h1 | h1
      · have := hp i j (by omega) hj h1
        rw [ho'] at this
        rcases this with h2 | ⟨h2, h3⟩
        · have : (l[i].id : Int) < (o.id : Int) := by omega
          simp [this]
        · have e : (l[i].id : Int) = (o.id : Int) := by omega
          have e2 : (l[i].at' : Int) < (o.at' : Int) + 1 := by omega
          simp [e, e2]
      · have : i = j := by omega
        subst this
        rw [ho']
        have e2 : (o.at' : Int) < (o.at' : Int) + 1 := by omega
        simp [e2]
    simp [hb]
  have e2 : since (l.drop (j + 1)) (o.id : Int) ((o.at' : Int) + 1) = l.drop (j + 1) := by
    unfold since
    rw [List.filter_eq_self]
    intro q hq
    obtain ⟨i, hi, rfl⟩ := List.mem_iff_getElem.1 hq
    rw [List.length_drop] at hi
    rw [List.getElem_drop]
    have := hp j (j + 1 + i) hj (by omega) (by omega)
    rw [ho'] at this
    unfold before
    rcases this with h2 | ⟨h2, h3⟩
    · have a1 : ¬ (l[j + 1 + i].id : Int) < (o.id : Int) := by omega
      have a2 : ¬ (l[j + 1 + i].id : Int) = (o.id : Int) := by omega
      simp [a1, a2]
    · have a1 : ¬ (l[j + 1 + i].id : Int) < (o.id : Int) := by omega
      have a2 : ¬ (l[j + 1 + i].at' : Int) < (o.at' : Int) + 1 := by omega
      simp [a1, a2]
  rw [e1, e2]; rfl
/-- one page, and where the next begins -/
theorem page_at (l : List Oc) (i t : Int) (m j : Nat) (hs : since l i t = l.drop j) : page l i t m = ((l.drop j).take m, decide (j + m < l.length)) := by
  rw [page_eq, hs, List.length_drop]
  congr 1
  rw [decide_eq_decide]; omega

end Go.Proofs.Ythkndfkkgncjfab.Do

namespace Go.Proofs.Ythkndfkkgncjfab.Lx
open Do (Chg Oc)

/-- does a row begin with a pattern? -/
def begins (p : List UInt8) (r : Rw) : Bool := Fo.pre r.bytes p 0
def hit (r : Rw) : Oc := ⟨r.id, r.at'⟩
def fnd (l : List Rw) (p : List UInt8) : List Oc := (l.filter (begins p)).map hit
theorem fnd_nil (p : List UInt8) : fnd [] p = [] := rfl
theorem fnd_hit (l : List Rw) (p : List UInt8) (k : Nat) (r : Rw) (h : l[k]? = some r) (hb : begins p r = true) : fnd (l.take (k + 1)) p = fnd (l.take k) p ++ [hit r] := by
  obtain ⟨h1, h2⟩ := List.getElem?_eq_some_iff.1 h
  unfold fnd
  rw [List.take_succ_eq_append_getElem h1, h2, List.filter_append, List.map_append]
  simp [hb]
theorem fnd_len (l : List Rw) (p : List UInt8) (k : Nat) : (fnd (l.take k) p).length ≤ k := by
  unfold fnd
  rw [List.length_map]
  exact Nat.le_trans (List.length_filter_le _ _) (by rw [List.length_take]; omega)
theorem begins_iff (p : List UInt8) (r : Rw) : begins p r = true ↔ r.bytes.take p.length = p := by
  unfold begins Fo.pre
  rw [decide_eq_true_eq, List.drop_zero]

/-- ahead of it all rows go ahead of the pattern, from it on none -/
def Cut (l : List Rw) (p : List UInt8) (a : Nat) : Prop := a ≤ l.length ∧ (∀ i r, i < a → l[i]? = some r → Op.bytesLess r.bytes p = true) ∧ (∀ i r, a ≤ i → l[i]? = some r → Op.bytesLess r.bytes p = false)
theorem fnd_before (l : List Rw) (p : List UInt8) (a : Nat) (h : Cut l p a) : fnd (l.take a) p = [] := by
  unfold fnd
  rw [List.map_eq_nil_iff, List.filter_eq_nil_iff]
  intro r hr hb
  rw [List.mem_iff_getElem?] at hr
  obtain ⟨i, hi⟩ := hr
  have hlt := (List.getElem?_eq_some_iff.1 hi).1
  rw [List.length_take] at hlt
  rw [List.getElem?_take_of_lt (by omega)] at hi
  have h1 := h.2.1 i r (by omega) hi
  rw [begins_iff] at hb
  rw [Fo.lt_pre _ _ hb] at h1
  cases h1
theorem fnd_stop (l : List Rw) (hs : Sorted l) (p : List UInt8) (a : Nat) (h : Cut l p a) (k : Nat) (r : Rw) (hk : a ≤ k) (hr : l[k]? = some r) (hb : begins p r = false) : fnd l p = fnd (l.take k) p := by
  have h0 := h.2.2 k r hk hr
  have hnp : ¬ r.bytes.take p.length = p := fun e => by rw [(begins_iff p r).2 e] at hb; cases hb
  rcases Fo.part3 r.bytes p with h1 | h1 | ⟨h1, _⟩
  · rw [h0] at h1; cases h1
  · exact absurd h1 hnp
  · have hrest : fnd (l.drop k) p = [] := by
      unfold fnd
      rw [List.map_eq_nil_iff, List.filter_eq_nil_iff]
      intro q hq hqb
      rw [List.mem_iff_getElem?] at hq
      obtain ⟨i, hi⟩ := hq
      rw [List.getElem?_drop] at hi
      rw [begins_iff] at hqb
      rcases Nat.eq_zero_or_pos i with h2 | h2
      · subst h2
        rw [Nat.add_zero, hr] at hi
        cases hi
        exact hnp hqb
      · have h3 := hs k (k + i) r q (by omega) hr hi
        have h4 := Fo.lt_behind q.bytes r.bytes p hqb h1 hnp
        unfold le at h3
        rw [h4] at h3; cases h3
    have e : l = l.take k ++ l.drop k := (List.take_append_drop k l).symm
    have e2 : fnd l p = fnd (l.take k) p ++ fnd (l.drop k) p := by
      unfold fnd
      rw [← List.map_append, ← List.filter_append, List.take_append_drop]
    rw [e2, hrest, List.append_nil]
theorem fnd_all (l : List Rw) (p : List UInt8) : fnd l p = fnd (l.take l.length) p := by rw [List.take_of_length_le (Nat.le_refl _)]
theorem fnd_perm {l m : List Rw} (h : l.Perm m) (p : List UInt8) : (fnd l p).Perm (fnd m p) := (h.filter _).map _
/-- the middle is ahead, or is not -/
theorem Sorted.ahead {l : List Rw} (hs : Sorted l) (p : List UInt8) (i j : Nat) (r q : Rw) (hij : i ≤ j) (hi : l[i]? = some r) (hj : l[j]? = some q) (h : Op.bytesLess q.bytes p = true) : Op.bytesLess r.bytes p = true := by
  rcases Nat.lt_or_ge i j with h1 | h1
  · have h2 := hs i j r q h1 hi hj
    unfold le at h2
    rw [Bool.not_eq_true'] at h2
    rcases Fo.lt_total r.bytes q.bytes with h3 | h3 | h3
    · exact Fo.lt_trans _ _ _ h3 h
    · rw [h3]; exact h
    · rw [h3] at h2; cases h2
  · have : i = j := by omega
    subst this
    rw [hi] at hj; cases hj; exact h

/-- a document's rows -/
def row0 (g : Pa.Pg) : Rw := ⟨g.id, g.doc, 0⟩
def rows (l : List Pa.Pg) : List Rw := all (l.map row0)
theorem rows_len (l : List Pa.Pg) : (rows l).length = Pa.wt l := by
  induction l with
  | nil => rfl
  | cons g r ih =>
    show (tails (row0 g) ++ rows r).length = g.w + Pa.wt r
    rw [List.length_append, ih, tails_len _ (Nat.zero_le _)]
    rfl
theorem rows_die (id : Nat) (l : List Pa.Pg) : (Pa.die id l).map row0 = l.map row0 := by
  unfold Pa.die
  rw [List.map_map]
  apply List.map_congr_left
  intro g _
  show row0 (Pa.die1 id g) = row0 g
  unfold row0
  rw [Pa.die1_id, Pa.die1_doc]
theorem rows_mark (l : List Pa.Pg) : (Pa.mark l).map row0 = l.map row0 := by
  unfold Pa.mark
  rw [List.map_map]; rfl

/-- the hits of a document's rows -/
theorem fnd_tails (g : Pa.Pg) (p : List UInt8) (hp : p ≠ []) : fnd (tails (row0 g)) p = Do.hitsIn (Pa.chg g) p g.doc.size := by
  have key : ∀ k, k ≤ g.doc.size + 1 → fnd ((List.range k).map fun j => (⟨g.id, g.doc, 0 + j⟩ : Rw)) p = Do.hitsIn (Pa.chg g) p k := by
    intro k hk
    induction k with
    | zero => rfl
    | succ k ih =>
      rw [List.range_succ, List.map_append]
      have e : ∀ a b : List Rw, fnd (a ++ b) p = fnd a p ++ fnd b p := fun a b => by unfold fnd; rw [List.filter_append, List.map_append]
      rw [e, ih (by omega), Do.hitsIn]
      congr 1
      have hb : begins p ⟨g.id, g.doc, 0 + k⟩ = Fo.pre (Pa.chg g).doc.data.toList p k := by
        unfold begins Fo.pre Rw.bytes Pa.chg
        rw [List.drop_zero, Nat.zero_add]
      unfold fnd
      simp only [List.map_cons, List.map_nil, List.filter_cons, List.filter_nil, hb]
      split
      · simp [hit, Pa.chg]
      · rfl
  have h1 := key (g.doc.size + 1) (Nat.le_refl _)
  have h2 : tails (row0 g) = (List.range (g.doc.size + 1)).map fun j => (⟨g.id, g.doc, 0 + j⟩ : Rw) := rfl
  rw [h2, h1]
  exact Do.hitsIn_over (Pa.chg g) p hp (g.doc.size + 1) (by show g.doc.size ≤ _; omega)

theorem hits_cons (c : Chg) (l : List Chg) (p : List UInt8) : Do.hits (c :: l) p = Do.hitsIn c p c.doc.size ++ Do.hits l p := by
  have key : ∀ k, Do.hitsTo (c :: l) p (k + 1) = Do.hitsIn c p c.doc.size ++ Do.hitsTo l p k := by
    intro k
    induction k with
    | zero => rw [Do.hitsTo]; simp [Do.hitsTo]
    | succ k ih =>
      rw [Do.hitsTo, ih, Do.hitsTo, List.append_assoc]
      simp
  exact key l.length
theorem hits_append (a b : List Chg) (p : List UInt8) : Do.hits (a ++ b) p = Do.hits a p ++ Do.hits b p := by
  induction a with
  | nil => rfl
  | cons c r ih => rw [List.cons_append, hits_cons, hits_cons, ih, List.append_assoc]

/-- of the rows' hits, those of documents that are there -/
theorem fnd_rows (l : List Pa.Pg) (p : List UInt8) (hp : p ≠ []) (f : Nat → Bool) : (fnd (rows l) p).filter (fun o => f o.id) = Do.hits ((l.filter fun g => f g.id).map Pa.chg) p := by
  induction l with
  | nil => rfl
  | cons g r ih =>
    have e : fnd (rows (g :: r)) p = fnd (tails (row0 g)) p ++ fnd (rows r) p := by
      show fnd (tails (row0 g) ++ rows r) p = _
      unfold fnd; rw [List.filter_append, List.map_append]
    rw [e, List.filter_append, ih, fnd_tails g p hp, List.filter_cons]
    have hm := Do.hitsIn_mem (Pa.chg g) p g.doc.size
    cases hf : f g.id
    · have : (Do.hitsIn (Pa.chg g) p g.doc.size).filter (fun o => f o.id) = [] := by
        rw [List.filter_eq_nil_iff]
        intro o ho
        rw [(hm o ho).1]
        show ¬ f g.id = true
        rw [hf]; simp
      rw [this]; simp
    · have : (Do.hitsIn (Pa.chg g) p g.doc.size).filter (fun o => f o.id) = Do.hitsIn (Pa.chg g) p g.doc.size := by
        rw [List.filter_eq_self]
        intro o ho
        rw [(hm o ho).1]
        exact hf
      rw [this]
      simp only [if_true, List.map_cons]
      rw [hits_cons]
      rfl

/-- the first of some hits at a place or behind it, k of them looked at -/
def selTo (l : List Oc) (i t : Int) : Nat → Option Oc
  | 0 => none
  | k + 1 => match l[k]? with
    | none => selTo l i t k
    | some o => if Do.before o i t then selTo l i t k else match selTo l i t k with
      | none => some o
      | some q => if Do.before o (q.id : Int) (q.at' : Int) then some o else some q
def sel (l : List Oc) (i t : Int) : Option Oc := selTo l i t l.length
theorem before_olt (o q : Oc) : Do.before o (q.id : Int) (q.at' : Int) = true ↔ Do.olt o q := by
  unfold Do.before Do.olt
  rw [Bool.or_eq_true, Bool.and_eq_true, decide_eq_true_eq, decide_eq_true_eq, beq_iff_eq]
  omega
theorem olt_total (o q : Oc) : Do.olt o q ∨ o = q ∨ Do.olt q o := by
  rcases o with ⟨a, b⟩; rcases q with ⟨c, d⟩
  unfold Do.olt
  simp only [Oc.mk.injEq]
  omega
theorem olt_trans {a b c : Oc} (h1 : Do.olt a b) (h2 : Do.olt b c) : Do.olt a c := by unfold Do.olt at *; omega
theorem olt_irrefl {a : Oc} (h : Do.olt a a) : False := by unfold Do.olt at h; omega
theorem selTo_spec (l : List Oc) (i t : Int) : ∀ k, k ≤ l.length → match selTo l i t k with
    | none => ∀ o ∈ l.take k, Do.before o i t = true
    | some o => o ∈ l.take k ∧ Do.before o i t = false ∧ ∀ q ∈ l.take k, Do.before q i t = false → q = o ∨ Do.olt o q
  | 0, _ => by simp [selTo]
  | k + 1, hk => by
    have ih := selTo_spec l i t k (by omega)
    have hk' : k < l.length := by omega
    have e : l.take (k + 1) = l.take k ++ [l[k]] := List.take_succ_eq_append_getElem hk'
    rw [selTo, List.getElem?_eq_getElem hk']
    simp only
    rw [e]
    generalize l[k] = o at *
    by_cases hb : Do.before o i t = true
    · rw [if_pos hb]
      cases hs : selTo l i t k with
      | none =>
        rw [hs] at ih
        intro q hq
        rw [List.mem_append] at hq
        rcases hq with hq | hq
        · exact ih q hq
        · simp at hq; subst hq; exact hb
      | some q =>
        rw [hs] at ih
        obtain ⟨h1, h2, h3⟩ := ih
        refine ⟨List.mem_append_left _ h1, h2, fun x hx hxb => ?_⟩
        rw [List.mem_append] at hx
        rcases hx with hx | hx
        · exact h3 x hx hxb
        · simp at hx; subst hx; rw [hb] at hxb; cases hxb
    · have hb' : Do.before o i t = false := by simpa using hb
      rw [if_neg hb]
      cases hs : selTo l i t k with
      | none =>
        rw [hs] at ih
        refine ⟨by simp, hb', fun x hx hxb => ?_⟩
        rw [List.mem_append] at hx
        rcases hx with hx | hx
        · have ih' : ∀ o ∈ l.take k, Do.before o i t = true := ih
          rw [ih' x hx] at hxb; cases hxb
        · simp at hx; exact .inl hx
      | some q =>
        rw [hs] at ih
        obtain ⟨h1, h2, h3⟩ := ih
        simp only
        by_cases hq : Do.before o (q.id : Int) (q.at' : Int) = true
        · rw [if_pos hq]
          rw [before_olt] at hq
          refine ⟨by simp, hb', fun x hx hxb => ?_⟩
          rw [List.mem_append] at hx
          rcases hx with hx | hx
          · rcases h3 x hx hxb with rfl | h4
            · exact .inr hq
            · exact .inr (olt_trans hq h4)
          · simp at hx; exact .inl hx
        · rw [if_neg hq]
          rw [before_olt] at hq
          refine ⟨List.mem_append_left _ h1, h2, fun x hx hxb => ?_⟩
          rw [List.mem_append] at hx
          rcases hx with hx | hx
          · exact h3 x hx hxb
          · simp at hx; subst hx
            rcases olt_total x q with h4 | h4 | h4
            · exact absurd h4 hq
            · exact .inl h4
            · exact .inr h4
theorem sel_head (H S : List Oc) (hp : H.Perm S) (hs : S.Pairwise Do.olt) (i t : Int) : sel H i t = (Do.since S i t).head? := by
  have h := selTo_spec H i t H.length (Nat.le_refl _)
  rw [List.take_of_length_le (Nat.le_refl _)] at h
  have hss : (Do.since S i t).Pairwise Do.olt := hs.filter _
  have hm : ∀ o, o ∈ Do.since S i t ↔ o ∈ H ∧ Do.before o i t = false := fun o => by
    unfold Do.since
    rw [List.mem_filter, hp.mem_iff]
    simp
  unfold sel
  cases hl : selTo H i t H.length with
  | none =>
    rw [hl] at h
    have h' : ∀ o ∈ H, Do.before o i t = true := h
    cases hd : Do.since S i t with
    | nil => rfl
    | cons a r =>
      obtain ⟨h1, h2⟩ := (hm a).1 (by rw [hd]; simp)
      rw [h' a h1] at h2; cases h2
  | some o =>
    rw [hl] at h
    obtain ⟨h1, h2, h3⟩ := h
    have h4 := (hm o).2 ⟨h1, h2⟩
    cases hd : Do.since S i t with
    | nil => rw [hd] at h4; cases h4
    | cons a r =>
      rw [hd] at h4 hss
      obtain ⟨h5, h6⟩ := (hm a).1 (by rw [hd]; simp)
      show some o = some a
      congr 1
      rw [List.mem_cons] at h4
      rcases h4 with h4 | h4
      · exact h4
      · have h7 := (List.pairwise_cons.1 hss).1 o h4
        rcases h3 a h5 h6 with h8 | h8
        · exact h8.symm
        · exact (olt_irrefl (olt_trans h7 h8)).elim
/-- one place on -/
theorem since_on (S : List Oc) (hs : S.Pairwise Do.olt) (i t : Int) (n : Nat) (o : Oc) (i' t' : Int) (h : Do.since S i' t' = (Do.since S i t).drop n) (ho : (Do.since S i' t').head? = some o) : Do.since S (o.id : Int) ((o.at' : Int) + 1) = (Do.since S i t).drop (n + 1) := by
  have e : (Do.since S i t).drop (n + 1) = (Do.since S i' t').tail := by rw [h, List.tail_drop]
  rw [e]
  cases hd : Do.since S i' t' with
  | nil => rw [hd] at ho; cases ho
  | cons a r =>
    rw [hd] at ho
    have : a = o := by simpa using ho
    subst this
    have hss : (Do.since S i' t').Pairwise Do.olt := hs.filter _
    have hb : ∀ q, Do.before q (a.id : Int) ((a.at' : Int) + 1) = false ↔ Do.olt a q := fun q => by
      unfold Do.before Do.olt
      rw [Bool.or_eq_false_iff, Bool.and_eq_false_iff, decide_eq_false_iff_not, decide_eq_false_iff_not, beq_eq_false_iff_ne]
      omega
    have ha : a ∈ S ∧ Do.before a i' t' = false := by
      have : a ∈ Do.since S i' t' := by rw [hd]; simp
      unfold Do.since at this
      rw [List.mem_filter] at this
      simpa using this
    -- what is behind a is at the place (i', t') or behind it
    have e2 : Do.since S (a.id : Int) ((a.at' : Int) + 1) = (Do.since S i' t').filter fun q => !Do.before q (a.id : Int) ((a.at' : Int) + 1) := by
      unfold Do.since
      rw [List.filter_filter]
      apply List.filter_congr
      intro q _
      cases hq : Do.before q (a.id : Int) ((a.at' : Int) + 1)
      · have h1 := (hb q).1 hq
        have h2 : Do.before q i' t' = false := by
          have h3 := ha.2
          unfold Do.before at h3 ⊢
          unfold Do.olt at h1
          rw [Bool.or_eq_false_iff, Bool.and_eq_false_iff, decide_eq_false_iff_not, decide_eq_false_iff_not, beq_eq_false_iff_ne] at h3 ⊢
          omega
        rw [h2]; rfl
      · rfl
    rw [e2, hd, List.filter_cons]
    have h1 : Do.before a (a.id : Int) ((a.at' : Int) + 1) = true := by
      cases h2 : Do.before a (a.id : Int) ((a.at' : Int) + 1)
      · exact (olt_irrefl ((hb a).1 h2)).elim
      · rfl
    rw [h1]
    simp only [Bool.not_true, Bool.false_eq_true, if_false, List.tail_cons]
    rw [List.filter_eq_self]
    intro q hq
    rw [hd] at hss
    rw [(hb q).2 ((List.pairwise_cons.1 hss).1 q hq)]; rfl

end Go.Proofs.Ythkndfkkgncjfab.Lx
