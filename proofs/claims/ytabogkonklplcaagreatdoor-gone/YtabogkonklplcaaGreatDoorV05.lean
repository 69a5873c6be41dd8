import Derived.Test.YtabogkonklplcaaGreatDoorV03
import Derived.Deep.AppendLies

namespace Go.Proofs.YtabogkonklplcaaGreatDoor
open Go.RowKit
set_option linter.unusedSimpArgs false
set_option linter.unusedVariables false
theorem row_setCell_other {w : World} {e : TypeId} {z : Nat} {v : Value} {n : Nat} {xs : List Value} (h : w.ownsRow 0 e z v n xs) {p : Addr} (hp : v.ownBlock ≠ some p.block) (u : Value) : (w.setCell p u).ownsRow 0 e z v n xs :=
  (Keeps.setCell (F := fun b => b = p.block) (Keeps.refl _ w) (.inl rfl) u).row h (fun b e1 e2 => hp (by rw [e1, e2]))
section
variable {w : World} {F : Nat → Prop} {bd bn cap : Nat} {rn : List RN} {rv : Value} {s : List Nd} {rs : List Sp}
theorem NOk.keeps {G : Nat → Prop} {w' : World} {r : RN} {x : Nd} (o : NOk w F bd bn rv r x) (hk : Keeps G w w') (hG : ∀ b, F b → b ≠ bd → b ≠ bn → ¬ G b) : NOk w' F bd bn rv r x :=
  ⟨o.t, o.p, hk.row o.chars (fun b e => hG b (o.apartC b e).1 (o.apartC b e).2.1 (o.apartC b e).2.2.1), hk.row o.kids (fun b e => hG b (o.apartK b e).1 (o.apartK b e).2.1 (o.apartK b e).2.2.1), o.apartC, o.apartK⟩
theorem RDocAt.narrow (h : RDocAt w F bd bn cap rn rv s rs) : RDocAt w (fun b => F b ∧ b < w.heap.size) bd bn cap rn rv s rs where
  doc := h.doc
  nodes := h.nodes
  ranges := h.ranges
  Fd := ⟨h.Fd, h.lt.1⟩
  Fn := ⟨h.Fn, h.lt.2⟩
  ne := h.ne
  apart := fun b e => ⟨⟨(h.apart b e).1, (h.ranges.lt b e).2⟩, (h.apart b e).2⟩
  len := h.len
  ok := fun i r x hr hx =>
    have o := h.ok i r x hr hx
    ⟨o.t, o.p, o.chars, o.kids, fun b e => ⟨⟨(o.apartC b e).1, (o.chars.lt b e).2⟩, (o.apartC b e).2⟩, fun b e => ⟨⟨(o.apartK b e).1, (o.kids.lt b e).2⟩, (o.apartK b e).2⟩⟩
theorem RDocAt.setNode (h : RDocAt w F bd bn cap rn rv s rs) {i : Nat} {r r' : RN} {x x' : Nd} (hr : rn[i]? = some r) (hx : s[i]? = some x) (j : Nat) (hj : j < 4) (u : Value) (he : r'.cells = r.cells.set j u) (ho : NOk w F bd bn rv r' x') :
    RDocAt (w.setCell ⟨bn, i * 4 + j, none⟩ u) F bd bn cap (rn.set i r') rv (s.set i x') rs := by
  have hk : Keeps (fun b => b = bn) w (w.setCell ⟨bn, i * 4 + j, none⟩ u) := (Keeps.refl (fun b => b = bn) w).setCell (p := ⟨bn, i * 4 + j, none⟩) (.inl rfl) u
  refine ⟨?_, ?_, ?_, h.Fd, h.Fn, h.ne, h.apart, by simpa using h.len, ?_⟩
  · rw [hk.block bd (heap_lt h.doc) h.ne, List.length_set]; exact h.doc
  · have := (h.nodes.stored (i * 4 + j) u).1
    rw [cells_set rn i r r' hr j hj u he] at this
    rw [List.length_set]
    exact this
  · exact hk.row h.ranges (fun b e => (h.apart b e).2.2)
  · intro k r1 x1 h1 h2
    rw [List.getElem?_set] at h1 h2
    by_cases hik : i = k
    · subst hik
      rw [if_pos rfl] at h1 h2
      have hi := (List.getElem?_eq_some_iff.1 hr).1
      have hi' := (List.getElem?_eq_some_iff.1 hx).1
      rw [if_pos hi] at h1
      rw [if_pos hi'] at h2
      cases h1
      cases h2
      exact ho.keeps hk (fun b _ _ hb e => hb e)
    · rw [if_neg hik] at h1 h2
      exact (h.ok k r1 x1 h1 h2).keeps hk (fun b _ _ hb e => hb e)
theorem RDocAt.newPar (h : RDocAt w F bd bn cap rn rv s rs) {i : Nat} {x : Nd} (p : Int) (hx : s[i]? = some x) :
    ∃ rn2, RDocAt (w.setCell ⟨bn, i * 4 + 3, none⟩ (.int .i64 p)) F bd bn cap rn2 rv (s.set i { x with p := p }) rs := by
  obtain ⟨r, hr, ho⟩ := h.raw hx
  exact ⟨_, h.setNode (r' := { r with p := p }) hr hx 3 (by omega) _ rfl ⟨ho.t, rfl, ho.chars, ho.kids, ho.apartC, ho.apartK⟩⟩
theorem RDocAt.pushed (h : RDocAt w F bd bn cap rn rv s rs) {w1 : World} {g cap' B : Nat} {r : RN} {x : Nd} (hB : B ≤ w.heap.size) (hg : w.grownBy w1 (some bn))
    (ho : w1.ownsRow 0 119 4 (.slice (some ⟨g, 0, none⟩) (rn.length + 1) cap') (rn.length + 1) (rn.flatMap RN.cells ++ r.cells)) (hgn : g = bn ∨ g = w.heap.size)
    (hn : NOk w (fun b => F b ∨ B ≤ b) bd bn rv r x) :
    RDocAt (w1.setCell ⟨bd, 0, none⟩ (.slice (some ⟨g, 0, none⟩) (rn.length + 1) cap')) (fun b => F b ∨ B ≤ b) bd g cap' (rn ++ [r]) rv (s ++ [x]) rs := by
  have hlt := h.lt
  have hgd : bd ≠ g := by
    rcases hgn with e | e
    · rw [e]; exact h.ne
    · omega
  have hk1 : Keeps (fun b => b = bn) w w1 := Keeps.grown hg (fun k e => by cases e; exact .inl rfl)
  have hk : Keeps (fun b => b = bn ∨ b = bd) w (w1.setCell ⟨bd, 0, none⟩ (.slice (some ⟨g, 0, none⟩) (rn.length + 1) cap')) :=
    (hk1.mono (fun k _ e => .inl e)).setCell (p := ⟨bd, 0, none⟩) (.inl (.inr rfl)) _
  have far : ∀ b, b < w.heap.size → b ≠ bn → b ≠ g := fun b hb hbn => by
    rcases hgn with e | e
    · rw [e]; exact hbn
    · omega
  have move : ∀ {r1 : RN} {x1 : Nd}, NOk w (fun b => F b ∨ B ≤ b) bd bn rv r1 x1 → NOk (w1.setCell ⟨bd, 0, none⟩ (.slice (some ⟨g, 0, none⟩) (rn.length + 1) cap')) (fun b => F b ∨ B ≤ b) bd g rv r1 x1 := by
    intro r1 x1 o
    refine ⟨o.t, o.p, hk.row o.chars ?_, hk.row o.kids ?_, ?_, ?_⟩
    · intro b e e2
      rcases e2 with e2 | e2
      · exact (o.apartC b e).2.2.1 e2
      · exact (o.apartC b e).2.1 e2
    · intro b e e2
      rcases e2 with e2 | e2
      · exact (o.apartK b e).2.2.1 e2
      · exact (o.apartK b e).2.1 e2
    · exact fun b e => ⟨(o.apartC b e).1, (o.apartC b e).2.1, far b (o.chars.lt b e).2 (o.apartC b e).2.2.1, (o.apartC b e).2.2.2⟩
    · exact fun b e => ⟨(o.apartK b e).1, (o.apartK b e).2.1, far b (o.kids.lt b e).2 (o.apartK b e).2.2.1, (o.apartK b e).2.2.2⟩
  refine ⟨?_, ?_, ?_, .inl h.Fd, ?_, hgd, ?_, by simp [h.len], ?_⟩
  · have e1 : w1.heap[bd]? = _ := (hk1.block bd hlt.1 h.ne).trans h.doc
    rw [heap_setCell_same w1 bd 0 _ _ _ e1]
    simp
  · rw [List.length_append, List.flatMap_append]
    simpa using row_setCell_other ho (p := ⟨bd, 0, none⟩) (by simp [Value.ownBlock]; exact fun e => hgd e.symm) _
  · refine hk.row h.ranges (fun b e e2 => ?_)
    rcases e2 with e2 | e2
    · exact (h.apart b e).2.2 e2
    · exact (h.apart b e).2.1 e2
  · rcases hgn with e | e
    · rw [e]; exact .inl h.Fn
    · exact .inr (by omega)
  · exact fun b e => ⟨.inl (h.apart b e).1, (h.apart b e).2.1, far b (h.ranges.lt b e).2 (h.apart b e).2.2⟩
  · intro i r1 x1 h1 h2
    by_cases hi : i < rn.length
    · rw [List.getElem?_append_left hi] at h1
      rw [List.getElem?_append_left (by rw [← h.len]; exact hi)] at h2
      have o := h.ok i r1 x1 h1 h2
      exact move ⟨o.t, o.p, o.chars, o.kids, fun b e => ⟨.inl (o.apartC b e).1, (o.apartC b e).2⟩, fun b e => ⟨.inl (o.apartK b e).1, (o.apartK b e).2⟩⟩
    · have hi1 := (List.getElem?_eq_some_iff.1 h1).1
      simp at hi1
      have ei : i = rn.length := by omega
      subst ei
      rw [List.getElem?_append_right (Nat.le_refl _)] at h1
      rw [List.getElem?_append_right (by rw [← h.len]; exact Nat.le_refl _)] at h2
      simp at h1
      simp [h.len] at h2
      subst h1
      subst h2
      exact move hn
end
def rootNd : Nd := ⟨false, [], [], -1⟩
end Go.Proofs.YtabogkonklplcaaGreatDoor

namespace Go.Proofs.YtabogkonklplcaaGreatDoor
open Go.RowKit
set_option linter.unusedSimpArgs false
set_option linter.unusedVariables false
section
variable {w : World} {F : Nat → Prop} {bd bn cap : Nat} {rn : List RN} {rv : Value} {s : List Nd} {rs : List Sp}
end
end Go.Proofs.YtabogkonklplcaaGreatDoor

namespace Go.Proofs.YtabogkonklplcaaGreatDoor
open Go.RowKit
set_option linter.unusedSimpArgs false
set_option linter.unusedVariables false
def moreF (b : Int) : Int × Int × Int :=
  if b < 128 then (0, 0, 0) else if 194 ≤ b ∧ b ≤ 223 then (1, 128, 191) else if b = 224 then (2, 160, 191) else if b = 237 then (2, 128, 159)
  else if 225 ≤ b ∧ b ≤ 239 then (2, 128, 191) else if b = 240 then (3, 144, 191) else if 241 ≤ b ∧ b ≤ 243 then (3, 128, 191) else if b = 244 then (3, 128, 143) else (-1, 0, 0)
def byteI (t : ByteArray) (i : Nat) : Int := if h : i < t.size then ((t[i]'h).toNat : Int) else 0
def okTail (t : ByteArray) (lo hi : Int) : Nat → Bool
  | 0 => true
  | k + 1 => okTail t lo hi k && decide ((if k = 0 then lo else 128) ≤ byteI t (k + 1) ∧ byteI t (k + 1) ≤ (if k = 0 then hi else 191))
def headW (t : ByteArray) : Nat :=
  let m := moreF (byteI t 0)
  if m.1 < 0 ∨ (t.size : Int) < m.1 + 1 then 0 else if okTail t m.2.1 m.2.2 m.1.toNat then m.1.toNat + 1 else 0
def charsF : Nat → ByteArray → Option (List ByteArray)
  | 0, t => if t.size = 0 then some [] else none
  | k + 1, t => if t.size = 0 then some [] else if headW t = 0 then none else (charsF k (t.extract (headW t) t.size)).map (t.extract 0 (headW t) :: ·)
def charsOf (t : ByteArray) : Option (List ByteArray) := charsF t.size t
theorem headW_le (t : ByteArray) : headW t ≤ t.size := by
  unfold headW
  simp only []
  split
  · omega
  · split <;> omega
theorem charsF_stable (j : Nat) : ∀ (k : Nat) (t : ByteArray), t.size ≤ j → t.size ≤ k → charsF j t = charsF k t := by
  induction j with
  | zero =>
    intro k t hj hk
    have h0 : t.size = 0 := by omega
    cases k <;> simp [charsF, h0]
  | succ j ih =>
    intro k t hj hk
    by_cases h0 : t.size = 0
    · cases k <;> simp [charsF, h0]
    · obtain ⟨k', rfl⟩ : ∃ k', k = k' + 1 := ⟨k - 1, by omega⟩
      simp only [charsF, h0, if_false]
      by_cases hw : headW t = 0
      · simp [hw]
      · simp only [hw, if_false]
        rw [ih k' _ (by rw [ByteArray.size_extract]; omega) (by rw [ByteArray.size_extract]; omega)]
theorem charsF_fuel (k : Nat) (t : ByteArray) (h : t.size ≤ k) : charsF k t = charsF t.size t := charsF_stable k _ t h (Nat.le_refl _)
theorem charsOf_step (t : ByteArray) : charsOf t = if t.size = 0 then some [] else if headW t = 0 then none else (charsOf (t.extract (headW t) t.size)).map (t.extract 0 (headW t) :: ·) := by
  unfold charsOf
  by_cases h0 : t.size = 0
  · rw [h0]; simp [charsF, h0]
  · obtain ⟨m, hm⟩ : ∃ m, t.size = m + 1 := ⟨t.size - 1, by omega⟩
    rw [if_neg h0]
    conv => lhs; rw [hm]
    simp only [charsF, h0, if_false]
    by_cases hw : headW t = 0
    · simp [hw]
    · simp only [hw, if_false]
      rw [charsF_fuel m _ (by rw [ByteArray.size_extract]; omega)]
theorem byteI_eq (t : ByteArray) (k : Nat) (h : k < t.size) : ((t[k]).toNat : Int) = byteI t k := by
  simp [byteI, h]
theorem moreF_le (b : Int) : -1 ≤ (moreF b).1 ∧ (moreF b).1 ≤ 3 := by
  unfold moreF
  (repeat' split) <;> decide
end Go.Proofs.YtabogkonklplcaaGreatDoor

namespace Go.Proofs.YtabogkonklplcaaGreatDoor
open Go.RowKit
set_option linter.unusedSimpArgs false
set_option linter.unusedVariables false
theorem ownsRow_zero {w : World} {B : Nat} {e : TypeId} {z : Nat} {v : Value} {n : Nat} {xs : List Value} (h : w.ownsRow B e z v n xs) : w.ownsRow 0 e z v n xs := by
  refine ⟨h.1, ?_⟩
  rcases h.2 with h | ⟨g, cap, cur, hv, _, r⟩
  · exact .inl h
  · exact .inr ⟨g, cap, cur, hv, Nat.zero_le _, r⟩
theorem slice_shape {w : World} {B : Nat} {e : TypeId} {z : Nat} {v : Value} {n : Nat} {xs : List Value} (h : w.ownsRow B e z v n xs) : ∃ a cap, v = .slice a n cap := by
  rcases h.2 with ⟨hv, hn⟩ | ⟨g, cap, cur, hv, _⟩
  · subst hn; exact ⟨_, _, hv⟩
  · exact ⟨_, _, hv⟩
section
variable {w : World} {F : Nat → Prop} {bd bn cap : Nat} {rn : List RN} {rv : Value} {s : List Nd} {rs : List Sp}
end
end Go.Proofs.YtabogkonklplcaaGreatDoor

namespace Go.Proofs.YtabogkonklplcaaGreatDoor
open Go.RowKit
set_option linter.unusedSimpArgs false
set_option linter.unusedVariables false
section
variable {w : World} {F : Nat → Prop} {bd bn cap : Nat} {rn : List RN} {rv : Value} {s : List Nd} {rs : List Sp}
def isB (s : List Nd) (k : Int) : Bool := decide (0 ≤ k ∧ k < s.length)
theorem isB_true {s : List Nd} {k : Int} (h : isB s k = true) : 0 ≤ k ∧ k < s.length := by simpa [isB] using h
theorem isB_of {s : List Nd} {k : Int} (h : 0 ≤ k ∧ k < s.length) : isB s k = true := by simpa [isB] using h
structure InsOk (s : List Nd) (i j : Nat) (x y : Nd) : Prop where
  hx : s[i]? = some x
  hy : s[j]? = some y
  ht : x.t = false
  hj : 0 < j
  hp : y.p < 0
end
end Go.Proofs.YtabogkonklplcaaGreatDoor

namespace Go.Proofs.YtabogkonklplcaaGreatDoor
open Go.RowKit
set_option linter.unusedSimpArgs false
set_option linter.unusedVariables false
def digCh (d : Nat) : ByteArray := (⟨#[48, 49, 50, 51, 52, 53, 54, 55, 56, 57]⟩ : ByteArray).extract d (d + 1)
def digB (n : Nat) : ByteArray := if n < 10 then digCh (n % 10) ++ ⟨#[]⟩ else digCh (n / 10 % 10) ++ (digCh (n % 10) ++ ⟨#[]⟩)
theorem digCh_size (d : Nat) : (digCh d).size ≤ 1 := by unfold digCh; rw [ByteArray.size_extract]; omega
theorem digB_size (n : Nat) : (digB n).size ≤ 2 := by
  have h1 := digCh_size (n % 10)
  have h2 := digCh_size (n / 10 % 10)
  have h3 : (⟨#[]⟩ : ByteArray).size = 0 := rfl
  unfold digB
  split
  · rw [ByteArray.size_append]; omega
  · rw [ByteArray.size_append, ByteArray.size_append]; omega
def isQ (c : ByteArray) : Bool := (c.toList == [39]) || (c.toList == [92])
def textStep (acc c : ByteArray) : ByteArray := (if isQ c then acc ++ ⟨#[92]⟩ else acc) ++ c
def elemStep (f : Nat → ByteArray) (acc : ByteArray) (c : Nat) : ByteArray := acc ++ ⟨#[32]⟩ ++ f c
def shownF (s : List Nd) : Nat → Nat → ByteArray
  | 0, _ => ByteArray.empty
  | k + 1, n => match s[n]? with
    | none => ByteArray.empty
    | some x => if x.t then x.cs.foldl textStep (digB n ++ ⟨#[39]⟩) ++ ⟨#[39]⟩ else x.ks.foldl (elemStep (shownF s k)) (⟨#[60]⟩ ++ digB n) ++ ⟨#[62]⟩
theorem text_mono (l : List ByteArray) (a : ByteArray) : a.size ≤ (l.foldl textStep a).size := by
  induction l generalizing a with
  | nil => exact Nat.le_refl _
  | cons c l ih =>
    refine Nat.le_trans ?_ (ih _)
    unfold textStep
    split <;> simp only [ByteArray.size_append] <;> omega
theorem elem_mono (f : Nat → ByteArray) (l : List Nat) (a : ByteArray) : a.size ≤ (l.foldl (elemStep f) a).size := by
  induction l generalizing a with
  | nil => exact Nat.le_refl _
  | cons c l ih =>
    refine Nat.le_trans ?_ (ih _)
    unfold elemStep
    simp only [ByteArray.size_append]; omega
section
variable {w : World} {F : Nat → Prop} {bd bn cap : Nat} {rn : List RN} {rv : Value} {s : List Nd} {rs : List Sp}
end
end Go.Proofs.YtabogkonklplcaaGreatDoor

namespace Go.Proofs.YtabogkonklplcaaGreatDoor
open Go.RowKit
set_option linter.unusedSimpArgs false
set_option linter.unusedVariables false
def kidsOf (s : List Nd) (i : Nat) : List Nat := match s[i]? with | some x => x.ks | none => []
def IsCh (c : ByteArray) : Prop := c.size ≠ 0 ∧ headW c = c.size
structure WF (s : List Nd) : Prop where
  pos : 0 < s.length
  cap : s.length ≤ 40
  up : ∃ h B, Up s h B
  kid : ∀ (i : Nat) (x : Nd), s[i]? = some x → ∀ c ∈ x.ks, ∃ y, s[c]? = some y ∧ y.p = (i : Int)
  par : ∀ (c : Nat) (y : Nd), s[c]? = some y → y.p = -1 ∨ ∃ (i : Nat) (x : Nd), y.p = (i : Int) ∧ s[i]? = some x ∧ c ∈ x.ks
  nodup : ∀ (i : Nat) (x : Nd), s[i]? = some x → x.ks.Nodup
  root : ∀ x, s[0]? = some x → x.p = -1
  elem : ∀ (i : Nat) (x : Nd), s[i]? = some x → (x.t = true → x.ks = []) ∧ (x.t = false → x.cs = [])
  chars : ∀ (i : Nat) (x : Nd), s[i]? = some x → x.cs.length ≤ 30 ∧ ∀ c ∈ x.cs, IsCh c
theorem headW_le4 (t : ByteArray) : headW t ≤ 4 := by
  have h := moreF_le (byteI t 0)
  unfold headW
  simp only []
  split
  · omega
  · split <;> omega
theorem WF.kid_lt {s : List Nd} (wf : WF s) {h : Nat → Nat} {B : Nat} (u : Up s h B) {i c : Nat} {x : Nd} (hx : s[i]? = some x) (hc : c ∈ x.ks) : c < s.length ∧ h c < h i := by
  obtain ⟨y, hy, hp⟩ := wf.kid i x hx c hc
  have := u.par c y hy (by omega)
  rw [hp] at this
  exact ⟨(List.getElem?_eq_some_iff.1 hy).1, by simpa using this.2⟩
def allF (s : List Nd) : Nat → Nat → List Nat
  | 0, _ => []
  | k + 1, n => n :: (kidsOf s n).flatMap (allF s k)
theorem kidsOf_eq {s : List Nd} {i : Nat} {x : Nd} (h : s[i]? = some x) : kidsOf s i = x.ks := by simp [kidsOf, h]
theorem kidsOf_mem {s : List Nd} {i c : Nat} (h : c ∈ kidsOf s i) : ∃ x, s[i]? = some x ∧ c ∈ x.ks := by
  unfold kidsOf at h
  split at h
  · exact ⟨_, ‹_›, h⟩
  · simp at h
def climb (s : List Nd) : Nat → Nat → Int
  | 0, d => d
  | j + 1, d => if climb s j d < 0 then -1 else parOf s (climb s j d).toNat
theorem climb_step {s : List Nd} {j d e : Nat} (h : climb s j d = (e : Int)) : climb s (j + 1) d = parOf s e := by
  have : ¬ ((e : Int) < 0) := by omega
  simp [climb, h, this]
theorem climb_add {s : List Nd} {i d e : Nat} (h : climb s i d = (e : Int)) (j : Nat) : climb s (i + j) d = climb s j e := by
  induction j with
  | zero => exact h
  | succ j ih =>
    show climb s (i + j + 1) d = climb s (j + 1) e
    simp only [climb, ih]
theorem all_climb {s : List Nd} (wf : WF s) : ∀ (k n d : Nat), d ∈ allF s k n → ∃ j, climb s j d = (n : Int) := by
  intro k
  induction k with
  | zero => intro n d h; simp [allF] at h
  | succ k ih =>
    intro n d h
    simp only [allF, List.mem_cons, List.mem_flatMap] at h
    rcases h with rfl | ⟨c, hc, hd⟩
    · exact ⟨0, rfl⟩
    · obtain ⟨j, hj⟩ := ih c d hd
      obtain ⟨x, hx, hcx⟩ := kidsOf_mem hc
      obtain ⟨y, hy, hp⟩ := wf.kid n x hx c hcx
      exact ⟨j + 1, by rw [climb_step hj]; simp [parOf, hy, hp]⟩
theorem climb_height {s : List Nd} {h : Nat → Nat} {B : Nat} (u : Up s h B) : ∀ (j d e : Nat), climb s j d = (e : Int) → h d ≤ h e ∧ (0 < j → h d < h e) := by
  intro j
  induction j with
  | zero =>
    intro d e he
    have : d = e := by simp [climb] at he; omega
    subst this
    exact ⟨Nat.le_refl _, by omega⟩
  | succ j ih =>
    intro d e he
    by_cases hneg : climb s j d < 0
    · simp [climb, hneg] at he
    · obtain ⟨m, hm⟩ := Int.eq_ofNat_of_zero_le (show 0 ≤ climb s j d by omega)
      have h1 := ih d m hm
      rw [climb_step hm] at he
      unfold parOf at he
      split at he
      · rename_i x hx
        have := (u.par m x hx (by omega)).2
        rw [he] at this
        simp at this
        exact ⟨by omega, fun _ => by omega⟩
      · omega
theorem all_head_not {s : List Nd} (wf : WF s) {h : Nat → Nat} {B : Nat} (u : Up s h B) {k n c : Nat} (hc : c ∈ kidsOf s n) : n ∉ allF s k c := by
  intro hn
  obtain ⟨j, hj⟩ := all_climb wf k c n hn
  obtain ⟨x, hx, hcx⟩ := kidsOf_mem hc
  have h1 := (climb_height u j n c hj).1
  have h2 := (wf.kid_lt u hx hcx).2
  omega
theorem all_apart {s : List Nd} (wf : WF s) {h : Nat → Nat} {B : Nat} (u : Up s h B) {k n c1 c2 d : Nat} (h1 : c1 ∈ kidsOf s n) (h2 : c2 ∈ kidsOf s n) (hd1 : d ∈ allF s k c1) (hd2 : d ∈ allF s k c2) : c1 = c2 := by
  obtain ⟨j1, hj1⟩ := all_climb wf k c1 d hd1
  obtain ⟨j2, hj2⟩ := all_climb wf k c2 d hd2
  obtain ⟨x, hx, hx1⟩ := kidsOf_mem h1
  obtain ⟨x', hx', hx2⟩ := kidsOf_mem h2
  rw [hx] at hx'
  cases hx'
  obtain ⟨y1, hy1, hp1⟩ := wf.kid n x hx c1 hx1
  obtain ⟨y2, hy2, hp2⟩ := wf.kid n x hx c2 hx2
  have key : ∀ {a b ja jb : Nat} {ya : Nd}, climb s ja d = (a : Int) → climb s jb d = (b : Int) → s[a]? = some ya → ya.p = (n : Int) → h b < h n → ja < jb → False := by
    intro a b ja jb ya ha hb hya hpa hbn hlt
    have e1 : climb s (ja + 1) d = (n : Int) := by rw [climb_step ha]; simp [parOf, hya, hpa]
    have e2 := climb_add e1 (jb - (ja + 1))
    rw [show ja + 1 + (jb - (ja + 1)) = jb by omega, hb] at e2
    have := (climb_height u _ n b e2.symm).1
    omega
  have l1 := (wf.kid_lt u hx hx1).2
  have l2 := (wf.kid_lt u hx hx2).2
  rcases Nat.lt_trichotomy j1 j2 with e | e | e
  · exact (key hj1 hj2 hy1 hp1 l2 e).elim
  · subst e; rw [hj1] at hj2; omega
  · exact (key hj2 hj1 hy2 hp2 l1 e).elim
theorem all_nodup {s : List Nd} (wf : WF s) : ∀ (k n : Nat), (allF s k n).Nodup := by
  obtain ⟨h, B, u⟩ := wf.up
  intro k
  induction k with
  | zero => intro n; simp [allF]
  | succ k ih =>
    intro n
    simp only [allF, List.nodup_cons]
    refine ⟨?_, ?_⟩
    · intro hm
      obtain ⟨c, hc, hn⟩ := List.mem_flatMap.1 hm
      exact all_head_not wf u hc hn
    · unfold List.Nodup
      rw [List.pairwise_flatMap]
      refine ⟨fun c _ => ih c, ?_⟩
      have hnd : (kidsOf s n).Nodup := by
        unfold kidsOf
        split
        · exact wf.nodup n _ ‹_›
        · simp
      refine (List.Pairwise.and_mem.1 hnd).imp ?_
      rintro a b ⟨ha, hb, hne⟩ x hx y hy e
      subst e
      exact hne (all_apart wf u ha hb hx hy)
theorem all_lt {s : List Nd} (wf : WF s) : ∀ (k n : Nat), n < s.length → ∀ d ∈ allF s k n, d < s.length := by
  intro k
  induction k with
  | zero => intro n _ d h; simp [allF] at h
  | succ k ih =>
    intro n hn d h
    simp only [allF, List.mem_cons, List.mem_flatMap] at h
    rcases h with rfl | ⟨c, hc, hd⟩
    · exact hn
    · obtain ⟨x, hx, hcx⟩ := kidsOf_mem hc
      obtain ⟨y, hy, _⟩ := wf.kid n x hx c hcx
      exact ih c (List.getElem?_eq_some_iff.1 hy).1 d hd
theorem nodup_length : ∀ (n : Nat) (l : List Nat), l.Nodup → (∀ x ∈ l, x < n) → l.length ≤ n := by
  intro n
  induction n with
  | zero =>
    intro l _ h
    cases l with
    | nil => exact Nat.le_refl _
    | cons a l => exact absurd (h a (by simp)) (by omega)
  | succ n ih =>
    intro l hl h
    by_cases hm : n ∈ l
    · have h1 := List.length_erase_of_mem hm
      have h2 := ih (l.erase n) (hl.erase n) (fun x hx => by
        have := h x (List.mem_of_mem_erase hx)
        have hne := (hl.mem_erase_iff.1 hx).1
        omega)
      have : 0 < l.length := List.length_pos_of_mem hm
      omega
    · have := ih l hl (fun x hx => by
        have h1 := h x hx
        have : x ≠ n := fun e => hm (e ▸ hx)
        omega)
      omega
theorem all_length {s : List Nd} (wf : WF s) (k n : Nat) (hn : n < s.length) : (allF s k n).length ≤ 40 :=
  Nat.le_trans (nodup_length s.length _ (all_nodup wf k n) (all_lt wf k n hn)) wf.cap
theorem text_size (l : List ByteArray) (a : ByteArray) (h : ∀ c ∈ l, c.size ≤ 4) : (l.foldl textStep a).size ≤ a.size + 5 * l.length := by
  induction l generalizing a with
  | nil => simp
  | cons c l ih =>
    have h1 := ih (textStep a c) (fun x hx => h x (by simp [hx]))
    have h2 := h c (by simp)
    have h3 : (textStep a c).size ≤ a.size + 5 := by
      have e : (⟨#[92]⟩ : ByteArray).size = 1 := rfl
      unfold textStep
      split <;> simp only [ByteArray.size_append] <;> omega
    simp only [List.foldl_cons, List.length_cons]
    omega
theorem elem_size (f : Nat → ByteArray) (g : Nat → Nat) (l : List Nat) (a : ByteArray) (h : ∀ c ∈ l, (f c).size + 1 ≤ 400 * g c) : (l.foldl (elemStep f) a).size ≤ a.size + 400 * (l.map g).sum := by
  induction l generalizing a with
  | nil => simp
  | cons c l ih =>
    have h1 := ih (elemStep f a c) (fun x hx => h x (by simp [hx]))
    have h2 := h c (by simp)
    have h3 : (elemStep f a c).size = a.size + 1 + (f c).size := by
      have e : (⟨#[32]⟩ : ByteArray).size = 1 := rfl
      unfold elemStep
      simp only [ByteArray.size_append]; omega
    simp only [List.foldl_cons, List.map_cons, List.sum_cons]
    omega
theorem shown_size {s : List Nd} (wf : WF s) {h : Nat → Nat} {B : Nat} (u : Up s h B) : ∀ (k n : Nat), n < s.length → h n < k → (shownF s k n).size + 1 ≤ 400 * (allF s k n).length := by
  intro k
  induction k with
  | zero => intro n _ h; omega
  | succ k ih =>
    intro n hn hk
    have hx : s[n]? = some s[n] := List.getElem?_eq_getElem hn
    generalize s[n] = x at hx
    have hd := digB_size n
    have e1 : (⟨#[39]⟩ : ByteArray).size = 1 := rfl
    have e2 : (⟨#[60]⟩ : ByteArray).size = 1 := rfl
    have e3 : (⟨#[62]⟩ : ByteArray).size = 1 := rfl
    simp only [shownF, hx, allF, List.length_cons, List.length_flatMap]
    split
    · have h1 := text_size x.cs (digB n ++ ⟨#[39]⟩) (fun c hc => by have := (wf.chars n x hx).2 c hc; rw [← this.2]; exact headW_le4 c)
      have h2 := (wf.chars n x hx).1
      simp only [ByteArray.size_append] at h1 ⊢
      omega
    · have h1 := elem_size (shownF s k) (fun c => (allF s k c).length) x.ks (⟨#[60]⟩ ++ digB n) (fun c hc => by
        have := wf.kid_lt u hx hc
        exact ih c this.1 (by omega))
      rw [kidsOf_eq hx]
      simp only [ByteArray.size_append] at h1 ⊢
      omega
theorem foldl_same {α β : Type} (f g : α → β → α) (l : List β) (a : α) (h : ∀ x ∈ l, ∀ a, f a x = g a x) : l.foldl f a = l.foldl g a := by
  induction l generalizing a with
  | nil => rfl
  | cons c l ih =>
    simp only [List.foldl_cons]
    rw [h c (by simp) a]
    exact ih _ (fun x hx => h x (by simp [hx]))
theorem shown_stable {s : List Nd} (wf : WF s) {h : Nat → Nat} {B : Nat} (u : Up s h B) : ∀ (k k' n : Nat), h n < k → h n < k' → shownF s k n = shownF s k' n := by
  intro k
  induction k with
  | zero => intro k' n hk _; omega
  | succ k ih =>
    intro k' n hk hk'
    obtain ⟨j, rfl⟩ : ∃ j, k' = j + 1 := ⟨k' - 1, by omega⟩
    simp only [shownF]
    split
    · rfl
    · rename_i x hx
      split
      · rfl
      · congr 1
        refine foldl_same _ _ _ _ (fun c hc a => ?_)
        have := (wf.kid_lt u hx hc).2
        unfold elemStep
        rw [ih j c (by omega) (by omega)]
theorem shown_lim {s : List Nd} (wf : WF s) {h : Nat → Nat} {B : Nat} (u : Up s h B) {k n : Nat} (hk : h n < k) : Lim (fun c => shownF s c n) (shownF s k n) :=
  ⟨h n + 1, fun c hc => shown_stable wf u c k n (by omega) hk⟩
theorem all_stable {s : List Nd} (wf : WF s) {h : Nat → Nat} {B : Nat} (u : Up s h B) : ∀ (k k' n : Nat), h n < k → h n < k' → allF s k n = allF s k' n := by
  intro k
  induction k with
  | zero => intro k' n hk _; omega
  | succ k ih =>
    intro k' n hk hk'
    obtain ⟨j, rfl⟩ : ∃ j, k' = j + 1 := ⟨k' - 1, by omega⟩
    simp only [allF]
    congr 1
    rw [List.flatMap_def, List.flatMap_def]
    congr 1
    refine List.map_congr_left (fun c hc => ?_)
    obtain ⟨x, hx, hcx⟩ := kidsOf_mem hc
    have := (wf.kid_lt u hx hcx).2
    exact ih j c (by omega) (by omega)
end Go.Proofs.YtabogkonklplcaaGreatDoor
