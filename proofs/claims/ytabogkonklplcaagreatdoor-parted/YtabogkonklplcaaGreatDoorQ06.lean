import Derived.Test.YtabogkonklplcaaGreatDoorQ03
import Derived.Laws.AppendOwnNone
import Derived.Deep.AppendLies
import Derived.Lib.DecodeN
import Derived.Lib.RuneCount
import Derived.Shelf.Strings.Builder1
import Derived.Shelf.Strings.Builder2
import Derived.Shelf.Strings.OnBuilder
import Derived.Shelf.Small.Wraps
import Derived.Shelf.Strings.BuilderF
import Derived.Shelf.Strings.BuilderK
import Derived.Shelf.Strings.BuilderRune
import Derived.Shelf.Utf8.AppendRune
import Derived.Shelf.Utf8.AppendRunePlain
import Derived.Shelf.Strings.Builder2Cap
import Derived.Shelf.Strconv.Itoa0
import Derived.Shelf.Strconv.Itoa1
import Derived.Shelf.LaysM
import Derived.Shelf.Strconv.Itoa2
import Derived.Shelf.Strconv.Itoa3
import Derived.Shelf.Strconv.Clone
import Derived.Shelf.Unicode.DecodeSlow
import Derived.Shelf.Unicode.DecodeAny
import Derived.Shelf.Strings.BuilderCap
import Derived.Shelf.Slices.Turned
import Derived.Shelf.Slices.Reverse
import Derived.Ground.Names2Prog
import Derived.Shelf.Slices.SearchI
import Derived.Shelf.Slices.Delete
import Derived.Shelf.Slices.Cells
import Derived.Shelf.Slices.Empties
import Derived.Test.YtabogkonklplcaaGreatDoorProg
import Derived.WalkSmall
import Derived.LoopTactic
import Derived.Laws.RangeString
import Derived.Laws.RangeAny
import Derived.Shelf.Spec.BytesIndexFunc
import Derived.RangeFuncNested
import Derived.RangeFuncBound
import Derived.RangeFuncCalls
import Derived.RangeFuncLeaves
import Derived.ControlIn

namespace Go.Proofs.YtabogkonklplcaaGreatDoor
open Go.RowKit
set_option linter.unusedSimpArgs false
set_option linter.unusedVariables false
theorem Tryz.sizeOf3 (w : World) : (sizeOf 3).run Tryz.prog w = .ok 1 w := by kernel_rfl
end Go.Proofs.YtabogkonklplcaaGreatDoor

namespace Go.Proofs.YtabogkonklplcaaGreatDoor
open Go.RowKit
set_option linter.unusedSimpArgs false
set_option linter.unusedVariables false
theorem row_setCell_other {w : World} {e : TypeId} {z : Nat} {v : Value} {n : Nat} {xs : List Value} (h : w.ownsRow 0 e z v n xs) {p : Addr} (hp : v.ownBlock ≠ some p.block) (u : Value) : (w.setCell p u).ownsRow 0 e z v n xs :=
  (Keeps.setCell (F := fun b => b = p.block) (Keeps.refl _ w) (.inl rfl) u).row h (fun b e1 e2 => hp (by rw [e1, e2]))
section
variable {w : World} {F : Nat → Prop} {bd bn cap : Nat} {rn : List RN} {rv : Value} {s : List Nd} {rs : List Sp}
theorem NOk.keeps {G : Nat → Prop} {w' : World} {r : RN} {x : Nd} (o : NOk w F bd bn rv r x) (hk : Keeps G w w') (hG : ∀ b, F b → b ≠ bd → b ≠ bn → ¬ G b) : NOk w' F bd bn rv r x :=
  ⟨o.t, o.p, hk.row o.chars (fun b e => hG b (o.apartC b e).1 (o.apartC b e).2.1 (o.apartC b e).2.2.1), hk.row o.kids (fun b e => hG b (o.apartK b e).1 (o.apartK b e).2.1 (o.apartK b e).2.2.1), o.apartC, o.apartK⟩
theorem RDocAt.narrow (h : RDocAt w F bd bn cap rn rv s rs) : RDocAt w (fun b => F b ∧ b < w.heap.size) bd bn cap rn rv s rs where
  doc := h.doc
  nodes := h.nodes
  ranges := h.ranges
  Fd := ⟨h.Fd, h.lt.1⟩
  Fn := ⟨h.Fn, h.lt.2⟩
  ne := h.ne
  apart := fun b e => ⟨⟨(h.apart b e).1, (h.ranges.lt b e).2⟩, (h.apart b e).2⟩
  len := h.len
  ok := fun i r x hr hx =>
    have o := h.ok i r x hr hx
    ⟨o.t, o.p, o.chars, o.kids, fun b e => ⟨⟨(o.apartC b e).1, (o.chars.lt b e).2⟩, (o.apartC b e).2⟩, fun b e => ⟨⟨(o.apartK b e).1, (o.kids.lt b e).2⟩, (o.apartK b e).2⟩⟩
theorem RDocAt.setNode (h : RDocAt w F bd bn cap rn rv s rs) {i : Nat} {r r' : RN} {x x' : Nd} (hr : rn[i]? = some r) (hx : s[i]? = some x) (j : Nat) (hj : j < 4) (u : Value) (he : r'.cells = r.cells.set j u) (ho : NOk w F bd bn rv r' x') :
    RDocAt (w.setCell ⟨bn, i * 4 + j, none⟩ u) F bd bn cap (rn.set i r') rv (s.set i x') rs := by
  have hk : Keeps (fun b => b = bn) w (w.setCell ⟨bn, i * 4 + j, none⟩ u) := (Keeps.refl (fun b => b = bn) w).setCell (p := ⟨bn, i * 4 + j, none⟩) (.inl rfl) u
  refine ⟨?_, ?_, ?_, h.Fd, h.Fn, h.ne, h.apart, by simpa using h.len, ?_⟩
  · rw [hk.block bd (heap_lt h.doc) h.ne, List.length_set]; exact h.doc
  · have := (h.nodes.stored (i * 4 + j) u).1
    rw [cells_set rn i r r' hr j hj u he] at this
    rw [List.length_set]
    exact this
  · exact hk.row h.ranges (fun b e => (h.apart b e).2.2)
  · intro k r1 x1 h1 h2
    rw [List.getElem?_set] at h1 h2
    by_cases hik : i = k
    · subst hik
      rw [if_pos rfl] at h1 h2
      have hi := (List.getElem?_eq_some_iff.1 hr).1
      have hi' := (List.getElem?_eq_some_iff.1 hx).1
      rw [if_pos hi] at h1
      rw [if_pos hi'] at h2
      cases h1
      cases h2
      exact ho.keeps hk (fun b _ _ hb e => hb e)
    · rw [if_neg hik] at h1 h2
      exact (h.ok k r1 x1 h1 h2).keeps hk (fun b _ _ hb e => hb e)
theorem RDocAt.newPar (h : RDocAt w F bd bn cap rn rv s rs) {i : Nat} {x : Nd} (p : Int) (hx : s[i]? = some x) :
    ∃ rn2, RDocAt (w.setCell ⟨bn, i * 4 + 3, none⟩ (.int .i64 p)) F bd bn cap rn2 rv (s.set i { x with p := p }) rs := by
  obtain ⟨r, hr, ho⟩ := h.raw hx
  exact ⟨_, h.setNode (r' := { r with p := p }) hr hx 3 (by omega) _ rfl ⟨ho.t, rfl, ho.chars, ho.kids, ho.apartC, ho.apartK⟩⟩
theorem RDocAt.pushed (h : RDocAt w F bd bn cap rn rv s rs) {w1 : World} {g cap' B : Nat} {r : RN} {x : Nd} (hB : B ≤ w.heap.size) (hg : w.grownBy w1 (some bn))
    (ho : w1.ownsRow 0 119 4 (.slice (some ⟨g, 0, none⟩) (rn.length + 1) cap') (rn.length + 1) (rn.flatMap RN.cells ++ r.cells)) (hgn : g = bn ∨ g = w.heap.size)
    (hn : NOk w (fun b => F b ∨ B ≤ b) bd bn rv r x) :
    RDocAt (w1.setCell ⟨bd, 0, none⟩ (.slice (some ⟨g, 0, none⟩) (rn.length + 1) cap')) (fun b => F b ∨ B ≤ b) bd g cap' (rn ++ [r]) rv (s ++ [x]) rs := by
  have hlt := h.lt
  have hgd : bd ≠ g := by
    rcases hgn with e | e
    · rw [e]; exact h.ne
    · omega
  have hk1 : Keeps (fun b => b = bn) w w1 := Keeps.grown hg (fun k e => by cases e; exact .inl rfl)
  have hk : Keeps (fun b => b = bn ∨ b = bd) w (w1.setCell ⟨bd, 0, none⟩ (.slice (some ⟨g, 0, none⟩) (rn.length + 1) cap')) :=
    (hk1.mono (fun k _ e => .inl e)).setCell (p := ⟨bd, 0, none⟩) (.inl (.inr rfl)) _
  have far : ∀ b, b < w.heap.size → b ≠ bn → b ≠ g := fun b hb hbn => by
    rcases hgn with e | e
    · rw [e]; exact hbn
    · omega
  have move : ∀ {r1 : RN} {x1 : Nd}, NOk w (fun b => F b ∨ B ≤ b) bd bn rv r1 x1 → NOk (w1.setCell ⟨bd, 0, none⟩ (.slice (some ⟨g, 0, none⟩) (rn.length + 1) cap')) (fun b => F b ∨ B ≤ b) bd g rv r1 x1 := by
    intro r1 x1 o
    refine ⟨o.t, o.p, hk.row o.chars ?_, hk.row o.kids ?_, ?_, ?_⟩
    · intro b e e2
      rcases e2 with e2 | e2
      · exact (o.apartC b e).2.2.1 e2
      · exact (o.apartC b e).2.1 e2
    · intro b e e2
      rcases e2 with e2 | e2
      · exact (o.apartK b e).2.2.1 e2
      · exact (o.apartK b e).2.1 e2
    · exact fun b e => ⟨(o.apartC b e).1, (o.apartC b e).2.1, far b (o.chars.lt b e).2 (o.apartC b e).2.2.1, (o.apartC b e).2.2.2⟩
    · exact fun b e => ⟨(o.apartK b e).1, (o.apartK b e).2.1, far b (o.kids.lt b e).2 (o.apartK b e).2.2.1, (o.apartK b e).2.2.2⟩
  refine ⟨?_, ?_, ?_, .inl h.Fd, ?_, hgd, ?_, by simp [h.len], ?_⟩
  · have e1 : w1.heap[bd]? = _ := (hk1.block bd hlt.1 h.ne).trans h.doc
    rw [heap_setCell_same w1 bd 0 _ _ _ e1]
    simp
  · rw [List.length_append, List.flatMap_append]
    simpa using row_setCell_other ho (p := ⟨bd, 0, none⟩) (by simp [Value.ownBlock]; exact fun e => hgd e.symm) _
  · refine hk.row h.ranges (fun b e e2 => ?_)
    rcases e2 with e2 | e2
    · exact (h.apart b e).2.2 e2
    · exact (h.apart b e).2.1 e2
  · rcases hgn with e | e
    · rw [e]; exact .inl h.Fn
    · exact .inr (by omega)
  · exact fun b e => ⟨.inl (h.apart b e).1, (h.apart b e).2.1, far b (h.ranges.lt b e).2 (h.apart b e).2.2⟩
  · intro i r1 x1 h1 h2
    by_cases hi : i < rn.length
    · rw [List.getElem?_append_left hi] at h1
      rw [List.getElem?_append_left (by rw [← h.len]; exact hi)] at h2
      have o := h.ok i r1 x1 h1 h2
      exact move ⟨o.t, o.p, o.chars, o.kids, fun b e => ⟨.inl (o.apartC b e).1, (o.apartC b e).2⟩, fun b e => ⟨.inl (o.apartK b e).1, (o.apartK b e).2⟩⟩
    · have hi1 := (List.getElem?_eq_some_iff.1 h1).1
      simp at hi1
      have ei : i = rn.length := by omega
      subst ei
      rw [List.getElem?_append_right (Nat.le_refl _)] at h1
      rw [List.getElem?_append_right (by rw [← h.len]; exact Nat.le_refl _)] at h2
      simp at h1
      simp [h.len] at h2
      subst h1
      subst h2
      exact move hn
end
def rootNd : Nd := ⟨false, [], [], -1⟩
end Go.Proofs.YtabogkonklplcaaGreatDoor

namespace Go.Proofs.YtabogkonklplcaaGreatDoor
open Go.RowKit
set_option linter.unusedSimpArgs false
set_option linter.unusedVariables false
section
variable {w : World} {F : Nat → Prop} {bd bn cap : Nat} {rn : List RN} {rv : Value} {s : List Nd} {rs : List Sp}
end
end Go.Proofs.YtabogkonklplcaaGreatDoor

namespace Go.Proofs.YtabogkonklplcaaGreatDoor
open Go.RowKit
set_option linter.unusedSimpArgs false
set_option linter.unusedVariables false
def moreF (b : Int) : Int × Int × Int :=
  if b < 128 then (0, 0, 0) else if 194 ≤ b ∧ b ≤ 223 then (1, 128, 191) else if b = 224 then (2, 160, 191) else if b = 237 then (2, 128, 159)
  else if 225 ≤ b ∧ b ≤ 239 then (2, 128, 191) else if b = 240 then (3, 144, 191) else if 241 ≤ b ∧ b ≤ 243 then (3, 128, 191) else if b = 244 then (3, 128, 143) else (-1, 0, 0)
def byteI (t : ByteArray) (i : Nat) : Int := if h : i < t.size then ((t[i]'h).toNat : Int) else 0
def okTail (t : ByteArray) (lo hi : Int) : Nat → Bool
  | 0 => true
  | k + 1 => okTail t lo hi k && decide ((if k = 0 then lo else 128) ≤ byteI t (k + 1) ∧ byteI t (k + 1) ≤ (if k = 0 then hi else 191))
def headW (t : ByteArray) : Nat :=
  let m := moreF (byteI t 0)
  if m.1 < 0 ∨ (t.size : Int) < m.1 + 1 then 0 else if okTail t m.2.1 m.2.2 m.1.toNat then m.1.toNat + 1 else 0
def charsF : Nat → ByteArray → Option (List ByteArray)
  | 0, t => if t.size = 0 then some [] else none
  | k + 1, t => if t.size = 0 then some [] else if headW t = 0 then none else (charsF k (t.extract (headW t) t.size)).map (t.extract 0 (headW t) :: ·)
def charsOf (t : ByteArray) : Option (List ByteArray) := charsF t.size t
theorem headW_le (t : ByteArray) : headW t ≤ t.size := by
  unfold headW
  simp only []
  split
  · omega
  · split <;> omega
theorem charsF_stable (j : Nat) : ∀ (k : Nat) (t : ByteArray), t.size ≤ j → t.size ≤ k → charsF j t = charsF k t := by
  induction j with
  | zero =>
    intro k t hj hk
    have h0 : t.size = 0 := by omega
    cases k <;> simp [charsF, h0]
  | succ j ih =>
    intro k t hj hk
    by_cases h0 : t.size = 0
    · cases k <;> simp [charsF, h0]
    · obtain ⟨k', rfl⟩ : ∃ k', k = k' + 1 := ⟨k - 1, by omega⟩
      simp only [charsF, h0, if_false]
      by_cases hw : headW t = 0
      · simp [hw]
      · simp only [hw, if_false]
        rw [ih k' _ (by rw [ByteArray.size_extract]; omega) (by rw [ByteArray.size_extract]; omega)]
theorem charsF_fuel (k : Nat) (t : ByteArray) (h : t.size ≤ k) : charsF k t = charsF t.size t := charsF_stable k _ t h (Nat.le_refl _)
theorem charsOf_step (t : ByteArray) : charsOf t = if t.size = 0 then some [] else if headW t = 0 then none else (charsOf (t.extract (headW t) t.size)).map (t.extract 0 (headW t) :: ·) := by
  unfold charsOf
  by_cases h0 : t.size = 0
  · rw [h0]; simp [charsF, h0]
  · obtain ⟨m, hm⟩ : ∃ m, t.size = m + 1 := ⟨t.size - 1, by omega⟩
    rw [if_neg h0]
    conv => lhs; rw [hm]
    simp only [charsF, h0, if_false]
    by_cases hw : headW t = 0
    · simp [hw]
    · simp only [hw, if_false]
      rw [charsF_fuel m _ (by rw [ByteArray.size_extract]; omega)]
theorem byteI_eq (t : ByteArray) (k : Nat) (h : k < t.size) : ((t[k]).toNat : Int) = byteI t k := by
  simp [byteI, h]
theorem moreF_le (b : Int) : -1 ≤ (moreF b).1 ∧ (moreF b).1 ≤ 3 := by
  unfold moreF
  (repeat' split) <;> decide
end Go.Proofs.YtabogkonklplcaaGreatDoor

namespace Go.Proofs.YtabogkonklplcaaGreatDoor
open Go.RowKit
set_option linter.unusedSimpArgs false
set_option linter.unusedVariables false
theorem ownsRow_zero {w : World} {B : Nat} {e : TypeId} {z : Nat} {v : Value} {n : Nat} {xs : List Value} (h : w.ownsRow B e z v n xs) : w.ownsRow 0 e z v n xs := by
  refine ⟨h.1, ?_⟩
  rcases h.2 with h | ⟨g, cap, cur, hv, _, r⟩
  · exact .inl h
  · exact .inr ⟨g, cap, cur, hv, Nat.zero_le _, r⟩
theorem slice_shape {w : World} {B : Nat} {e : TypeId} {z : Nat} {v : Value} {n : Nat} {xs : List Value} (h : w.ownsRow B e z v n xs) : ∃ a cap, v = .slice a n cap := by
  rcases h.2 with ⟨hv, hn⟩ | ⟨g, cap, cur, hv, _⟩
  · subst hn; exact ⟨_, _, hv⟩
  · exact ⟨_, _, hv⟩
section
variable {w : World} {F : Nat → Prop} {bd bn cap : Nat} {rn : List RN} {rv : Value} {s : List Nd} {rs : List Sp}
end
end Go.Proofs.YtabogkonklplcaaGreatDoor

namespace Go.Proofs.YtabogkonklplcaaGreatDoor
open Go.RowKit
set_option linter.unusedSimpArgs false
set_option linter.unusedVariables false
section
variable {w : World} {F : Nat → Prop} {bd bn cap : Nat} {rn : List RN} {rv : Value} {s : List Nd} {rs : List Sp}
def isB (s : List Nd) (k : Int) : Bool := decide (0 ≤ k ∧ k < s.length)
theorem isB_true {s : List Nd} {k : Int} (h : isB s k = true) : 0 ≤ k ∧ k < s.length := by simpa [isB] using h
theorem isB_of {s : List Nd} {k : Int} (h : 0 ≤ k ∧ k < s.length) : isB s k = true := by simpa [isB] using h
structure InsOk (s : List Nd) (i j : Nat) (x y : Nd) : Prop where
  hx : s[i]? = some x
  hy : s[j]? = some y
  ht : x.t = false
  hj : 0 < j
  hp : y.p < 0
end
end Go.Proofs.YtabogkonklplcaaGreatDoor

namespace Go.Proofs.YtabogkonklplcaaGreatDoor
open Go.RowKit
set_option linter.unusedSimpArgs false
set_option linter.unusedVariables false
def digCh (d : Nat) : ByteArray := (⟨#[48, 49, 50, 51, 52, 53, 54, 55, 56, 57]⟩ : ByteArray).extract d (d + 1)
def digB (n : Nat) : ByteArray := if n < 10 then digCh (n % 10) ++ ⟨#[]⟩ else digCh (n / 10 % 10) ++ (digCh (n % 10) ++ ⟨#[]⟩)
theorem digCh_size (d : Nat) : (digCh d).size ≤ 1 := by unfold digCh; rw [ByteArray.size_extract]; omega
theorem digB_size (n : Nat) : (digB n).size ≤ 2 := by
  have h1 := digCh_size (n % 10)
  have h2 := digCh_size (n / 10 % 10)
  have h3 : (⟨#[]⟩ : ByteArray).size = 0 := rfl
  unfold digB
  split
  · rw [ByteArray.size_append]; omega
  · rw [ByteArray.size_append, ByteArray.size_append]; omega
def isQ (c : ByteArray) : Bool := (c.toList == [39]) || (c.toList == [92])
def textStep (acc c : ByteArray) : ByteArray := (if isQ c then acc ++ ⟨#[92]⟩ else acc) ++ c
def elemStep (f : Nat → ByteArray) (acc : ByteArray) (c : Nat) : ByteArray := acc ++ ⟨#[32]⟩ ++ f c
def shownF (s : List Nd) : Nat → Nat → ByteArray
  | 0, _ => ByteArray.empty
  | k + 1, n => match s[n]? with
    | none => ByteArray.empty
    | some x => if x.t then x.cs.foldl textStep (digB n ++ ⟨#[39]⟩) ++ ⟨#[39]⟩ else x.ks.foldl (elemStep (shownF s k)) (⟨#[60]⟩ ++ digB n) ++ ⟨#[62]⟩
theorem text_mono (l : List ByteArray) (a : ByteArray) : a.size ≤ (l.foldl textStep a).size := by
  induction l generalizing a with
  | nil => exact Nat.le_refl _
  | cons c l ih =>
    refine Nat.le_trans ?_ (ih _)
    unfold textStep
    split <;> simp only [ByteArray.size_append] <;> omega
theorem elem_mono (f : Nat → ByteArray) (l : List Nat) (a : ByteArray) : a.size ≤ (l.foldl (elemStep f) a).size := by
  induction l generalizing a with
  | nil => exact Nat.le_refl _
  | cons c l ih =>
    refine Nat.le_trans ?_ (ih _)
    unfold elemStep
    simp only [ByteArray.size_append]; omega
section
variable {w : World} {F : Nat → Prop} {bd bn cap : Nat} {rn : List RN} {rv : Value} {s : List Nd} {rs : List Sp}
end
end Go.Proofs.YtabogkonklplcaaGreatDoor

namespace Go.Proofs.YtabogkonklplcaaGreatDoor
open Go.RowKit
set_option linter.unusedSimpArgs false
set_option linter.unusedVariables false
def kidsOf (s : List Nd) (i : Nat) : List Nat := match s[i]? with | some x => x.ks | none => []
def IsCh (c : ByteArray) : Prop := c.size ≠ 0 ∧ headW c = c.size
structure WF (s : List Nd) : Prop where
  pos : 0 < s.length
  cap : s.length ≤ 40
  up : ∃ h B, Up s h B
  kid : ∀ (i : Nat) (x : Nd), s[i]? = some x → ∀ c ∈ x.ks, ∃ y, s[c]? = some y ∧ y.p = (i : Int)
  par : ∀ (c : Nat) (y : Nd), s[c]? = some y → y.p = -1 ∨ ∃ (i : Nat) (x : Nd), y.p = (i : Int) ∧ s[i]? = some x ∧ c ∈ x.ks
  nodup : ∀ (i : Nat) (x : Nd), s[i]? = some x → x.ks.Nodup
  root : ∀ x, s[0]? = some x → x.p = -1
  elem : ∀ (i : Nat) (x : Nd), s[i]? = some x → (x.t = true → x.ks = []) ∧ (x.t = false → x.cs = [])
  chars : ∀ (i : Nat) (x : Nd), s[i]? = some x → x.cs.length ≤ 30 ∧ ∀ c ∈ x.cs, IsCh c
theorem headW_le4 (t : ByteArray) : headW t ≤ 4 := by
  have h := moreF_le (byteI t 0)
  unfold headW
  simp only []
  split
  · omega
  · split <;> omega
theorem WF.kid_lt {s : List Nd} (wf : WF s) {h : Nat → Nat} {B : Nat} (u : Up s h B) {i c : Nat} {x : Nd} (hx : s[i]? = some x) (hc : c ∈ x.ks) : c < s.length ∧ h c < h i := by
  obtain ⟨y, hy, hp⟩ := wf.kid i x hx c hc
  have := u.par c y hy (by omega)
  rw [hp] at this
  exact ⟨(List.getElem?_eq_some_iff.1 hy).1, by simpa using this.2⟩
def allF (s : List Nd) : Nat → Nat → List Nat
  | 0, _ => []
  | k + 1, n => n :: (kidsOf s n).flatMap (allF s k)
theorem kidsOf_eq {s : List Nd} {i : Nat} {x : Nd} (h : s[i]? = some x) : kidsOf s i = x.ks := by simp [kidsOf, h]
theorem kidsOf_mem {s : List Nd} {i c : Nat} (h : c ∈ kidsOf s i) : ∃ x, s[i]? = some x ∧ c ∈ x.ks := by
  unfold kidsOf at h
  split at h
  · exact ⟨_, ‹_›, h⟩
  · simp at h
def climb (s : List Nd) : Nat → Nat → Int
  | 0, d => d
  | j + 1, d => if climb s j d < 0 then -1 else parOf s (climb s j d).toNat
theorem climb_step {s : List Nd} {j d e : Nat} (h : climb s j d = (e : Int)) : climb s (j + 1) d = parOf s e := by
  have : ¬ ((e : Int) < 0) := by omega
  simp [climb, h, this]
theorem climb_add {s : List Nd} {i d e : Nat} (h : climb s i d = (e : Int)) (j : Nat) : climb s (i + j) d = climb s j e := by
  induction j with
  | zero => exact h
  | succ j ih =>
    show climb s (i + j + 1) d = climb s (j + 1) e
    simp only [climb, ih]
theorem all_climb {s : List Nd} (wf : WF s) : ∀ (k n d : Nat), d ∈ allF s k n → ∃ j, climb s j d = (n : Int) := by
  intro k
  induction k with
  | zero => intro n d h; simp [allF] at h
  | succ k ih =>
    intro n d h
    simp only [allF, List.mem_cons, List.mem_flatMap] at h
    rcases h with rfl | ⟨c, hc, hd⟩
    · exact ⟨0, rfl⟩
    · obtain ⟨j, hj⟩ := ih c d hd
      obtain ⟨x, hx, hcx⟩ := kidsOf_mem hc
      obtain ⟨y, hy, hp⟩ := wf.kid n x hx c hcx
      exact ⟨j + 1, by rw [climb_step hj]; simp [parOf, hy, hp]⟩
theorem climb_height {s : List Nd} {h : Nat → Nat} {B : Nat} (u : Up s h B) : ∀ (j d e : Nat), climb s j d = (e : Int) → h d ≤ h e ∧ (0 < j → h d < h e) := by
  intro j
  induction j with
  | zero =>
    intro d e he
    have : d = e := by simp [climb] at he; omega
    subst this
    exact ⟨Nat.le_refl _, by omega⟩
  | succ j ih =>
    intro d e he
    by_cases hneg : climb s j d < 0
    · simp [climb, hneg] at he
    · obtain ⟨m, hm⟩ := Int.eq_ofNat_of_zero_le (show 0 ≤ climb s j d by omega)
      have h1 := ih d m hm
      rw [climb_step hm] at he
      unfold parOf at he
      split at he
      · rename_i x hx
        have := (u.par m x hx (by omega)).2
        rw [he] at this
        simp at this
        exact ⟨by omega, fun _ => by omega⟩
      · omega
theorem all_head_not {s : List Nd} (wf : WF s) {h : Nat → Nat} {B : Nat} (u : Up s h B) {k n c : Nat} (hc : c ∈ kidsOf s n) : n ∉ allF s k c := by
  intro hn
  obtain ⟨j, hj⟩ := all_climb wf k c n hn
  obtain ⟨x, hx, hcx⟩ := kidsOf_mem hc
  have h1 := (climb_height u j n c hj).1
  have h2 := (wf.kid_lt u hx hcx).2
  omega
theorem all_apart {s : List Nd} (wf : WF s) {h : Nat → Nat} {B : Nat} (u : Up s h B) {k n c1 c2 d : Nat} (h1 : c1 ∈ kidsOf s n) (h2 : c2 ∈ kidsOf s n) (hd1 : d ∈ allF s k c1) (hd2 : d ∈ allF s k c2) : c1 = c2 := by
  obtain ⟨j1, hj1⟩ := all_climb wf k c1 d hd1
  obtain ⟨j2, hj2⟩ := all_climb wf k c2 d hd2
  obtain ⟨x, hx, hx1⟩ := kidsOf_mem h1
  obtain ⟨x', hx', hx2⟩ := kidsOf_mem h2
  rw [hx] at hx'
  cases hx'
  obtain ⟨y1, hy1, hp1⟩ := wf.kid n x hx c1 hx1
  obtain ⟨y2, hy2, hp2⟩ := wf.kid n x hx c2 hx2
  have key : ∀ {a b ja jb : Nat} {ya : Nd}, climb s ja d = (a : Int) → climb s jb d = (b : Int) → s[a]? = some ya → ya.p = (n : Int) → h b < h n → ja < jb → False := by
    intro a b ja jb ya ha hb hya hpa hbn hlt
    have e1 : climb s (ja + 1) d = (n : Int) := by rw [climb_step ha]; simp [parOf, hya, hpa]
    have e2 := climb_add e1 (jb - (ja + 1))
    rw [show ja + 1 + (jb - (ja + 1)) = jb by omega, hb] at e2
    have := (climb_height u _ n b e2.symm).1
    omega
  have l1 := (wf.kid_lt u hx hx1).2
  have l2 := (wf.kid_lt u hx hx2).2
  rcases Nat.lt_trichotomy j1 j2 with e | e | e
  · exact (key hj1 hj2 hy1 hp1 l2 e).elim
  · subst e; rw [hj1] at hj2; omega
  · exact (key hj2 hj1 hy2 hp2 l1 e).elim
theorem all_nodup {s : List Nd} (wf : WF s) : ∀ (k n : Nat), (allF s k n).Nodup := by
  obtain ⟨h, B, u⟩ := wf.up
  intro k
  induction k with
  | zero => intro n; simp [allF]
  | succ k ih =>
    intro n
    simp only [allF, List.nodup_cons]
    refine ⟨?_, ?_⟩
    · intro hm
      obtain ⟨c, hc, hn⟩ := List.mem_flatMap.1 hm
      exact all_head_not wf u hc hn
    · unfold List.Nodup
      rw [List.pairwise_flatMap]
      refine ⟨fun c _ => ih c, ?_⟩
      have hnd : (kidsOf s n).Nodup := by
        unfold kidsOf
        split
        · exact wf.nodup n _ ‹_›
        · simp
      refine (List.Pairwise.and_mem.1 hnd).imp ?_
      rintro a b ⟨ha, hb, hne⟩ x hx y hy e
      subst e
      exact hne (all_apart wf u ha hb hx hy)
theorem all_lt {s : List Nd} (wf : WF s) : ∀ (k n : Nat), n < s.length → ∀ d ∈ allF s k n, d < s.length := by
  intro k
  induction k with
  | zero => intro n _ d h; simp [allF] at h
  | succ k ih =>
    intro n hn d h
    simp only [allF, List.mem_cons, List.mem_flatMap] at h
    rcases h with rfl | ⟨c, hc, hd⟩
    · exact hn
    · obtain ⟨x, hx, hcx⟩ := kidsOf_mem hc
      obtain ⟨y, hy, _⟩ := wf.kid n x hx c hcx
      exact ih c (List.getElem?_eq_some_iff.1 hy).1 d hd
theorem nodup_length : ∀ (n : Nat) (l : List Nat), l.Nodup → (∀ x ∈ l, x < n) → l.length ≤ n := by
  intro n
  induction n with
  | zero =>
    intro l _ h
    cases l with
    | nil => exact Nat.le_refl _
    | cons a l => exact absurd (h a (by simp)) (by omega)
  | succ n ih =>
    intro l hl h
    by_cases hm : n ∈ l
    · have h1 := List.length_erase_of_mem hm
      have h2 := ih (l.erase n) (hl.erase n) (fun x hx => by
        have := h x (List.mem_of_mem_erase hx)
        have hne := (hl.mem_erase_iff.1 hx).1
        omega)
      have : 0 < l.length := List.length_pos_of_mem hm
      omega
    · have := ih l hl (fun x hx => by
        have h1 := h x hx
        have : x ≠ n := fun e => hm (e ▸ hx)
        omega)
      omega
theorem all_length {s : List Nd} (wf : WF s) (k n : Nat) (hn : n < s.length) : (allF s k n).length ≤ 40 :=
  Nat.le_trans (nodup_length s.length _ (all_nodup wf k n) (all_lt wf k n hn)) wf.cap
theorem text_size (l : List ByteArray) (a : ByteArray) (h : ∀ c ∈ l, c.size ≤ 4) : (l.foldl textStep a).size ≤ a.size + 5 * l.length := by
  induction l generalizing a with
  | nil => simp
  | cons c l ih =>
    have h1 := ih (textStep a c) (fun x hx => h x (by simp [hx]))
    have h2 := h c (by simp)
    have h3 : (textStep a c).size ≤ a.size + 5 := by
      have e : (⟨#[92]⟩ : ByteArray).size = 1 := rfl
      unfold textStep
      split <;> simp only [ByteArray.size_append] <;> omega
    simp only [List.foldl_cons, List.length_cons]
    omega
theorem elem_size (f : Nat → ByteArray) (g : Nat → Nat) (l : List Nat) (a : ByteArray) (h : ∀ c ∈ l, (f c).size + 1 ≤ 400 * g c) : (l.foldl (elemStep f) a).size ≤ a.size + 400 * (l.map g).sum := by
  induction l generalizing a with
  | nil => simp
  | cons c l ih =>
    have h1 := ih (elemStep f a c) (fun x hx => h x (by simp [hx]))
    have h2 := h c (by simp)
    have h3 : (elemStep f a c).size = a.size + 1 + (f c).size := by
      have e : (⟨#[32]⟩ : ByteArray).size = 1 := rfl
      unfold elemStep
      simp only [ByteArray.size_append]; omega
    simp only [List.foldl_cons, List.map_cons, List.sum_cons]
    omega
theorem shown_size {s : List Nd} (wf : WF s) {h : Nat → Nat} {B : Nat} (u : Up s h B) : ∀ (k n : Nat), n < s.length → h n < k → (shownF s k n).size + 1 ≤ 400 * (allF s k n).length := by
  intro k
  induction k with
  | zero => intro n _ h; omega
  | succ k ih =>
    intro n hn hk
    have hx : s[n]? = some s[n] := List.getElem?_eq_getElem hn
    generalize s[n] = x at hx
    have hd := digB_size n
    have e1 : (⟨#[39]⟩ : ByteArray).size = 1 := rfl
    have e2 : (⟨#[60]⟩ : ByteArray).size = 1 := rfl
    have e3 : (⟨#[62]⟩ : ByteArray).size = 1 := rfl
    simp only [shownF, hx, allF, List.length_cons, List.length_flatMap]
    split
    · have h1 := text_size x.cs (digB n ++ ⟨#[39]⟩) (fun c hc => by have := (wf.chars n x hx).2 c hc; rw [← this.2]; exact headW_le4 c)
      have h2 := (wf.chars n x hx).1
      simp only [ByteArray.size_append] at h1 ⊢
      omega
    · have h1 := elem_size (shownF s k) (fun c => (allF s k c).length) x.ks (⟨#[60]⟩ ++ digB n) (fun c hc => by
        have := wf.kid_lt u hx hc
        exact ih c this.1 (by omega))
      rw [kidsOf_eq hx]
      simp only [ByteArray.size_append] at h1 ⊢
      omega
theorem foldl_same {α β : Type} (f g : α → β → α) (l : List β) (a : α) (h : ∀ x ∈ l, ∀ a, f a x = g a x) : l.foldl f a = l.foldl g a := by
  induction l generalizing a with
  | nil => rfl
  | cons c l ih =>
    simp only [List.foldl_cons]
    rw [h c (by simp) a]
    exact ih _ (fun x hx => h x (by simp [hx]))
theorem shown_stable {s : List Nd} (wf : WF s) {h : Nat → Nat} {B : Nat} (u : Up s h B) : ∀ (k k' n : Nat), h n < k → h n < k' → shownF s k n = shownF s k' n := by
  intro k
  induction k with
  | zero => intro k' n hk _; omega
  | succ k ih =>
    intro k' n hk hk'
    obtain ⟨j, rfl⟩ : ∃ j, k' = j + 1 := ⟨k' - 1, by omega⟩
    simp only [shownF]
    split
    · rfl
    · rename_i x hx
      split
      · rfl
      · congr 1
        refine foldl_same _ _ _ _ (fun c hc a => ?_)
        have := (wf.kid_lt u hx hc).2
        unfold elemStep
        rw [ih j c (by omega) (by omega)]
theorem shown_lim {s : List Nd} (wf : WF s) {h : Nat → Nat} {B : Nat} (u : Up s h B) {k n : Nat} (hk : h n < k) : Lim (fun c => shownF s c n) (shownF s k n) :=
  ⟨h n + 1, fun c hc => shown_stable wf u c k n (by omega) hk⟩
theorem all_stable {s : List Nd} (wf : WF s) {h : Nat → Nat} {B : Nat} (u : Up s h B) : ∀ (k k' n : Nat), h n < k → h n < k' → allF s k n = allF s k' n := by
  intro k
  induction k with
  | zero => intro k' n hk _; omega
  | succ k ih =>
    intro k' n hk hk'
    obtain ⟨j, rfl⟩ : ∃ j, k' = j + 1 := ⟨k' - 1, by omega⟩
    simp only [allF]
    congr 1
    rw [List.flatMap_def, List.flatMap_def]
    congr 1
    refine List.map_congr_left (fun c hc => ?_)
    obtain ⟨x, hx, hcx⟩ := kidsOf_mem hc
    have := (wf.kid_lt u hx hcx).2
    exact ih j c (by omega) (by omega)
end Go.Proofs.YtabogkonklplcaaGreatDoor

namespace Go.Proofs.YtabogkonklplcaaGreatDoor
open Go.RowKit
set_option linter.unusedSimpArgs false
set_option linter.unusedVariables false
def headN (n b0 b1 b2 b3 : Nat) : Nat :=
  if b0 < 128 then 1
  else if 194 ≤ b0 ∧ b0 ≤ 223 then (if 2 ≤ n ∧ 128 ≤ b1 ∧ b1 ≤ 191 then 2 else 0)
  else if b0 = 224 then (if 3 ≤ n ∧ (160 ≤ b1 ∧ b1 ≤ 191) ∧ (128 ≤ b2 ∧ b2 ≤ 191) then 3 else 0)
  else if b0 = 237 then (if 3 ≤ n ∧ (128 ≤ b1 ∧ b1 ≤ 159) ∧ (128 ≤ b2 ∧ b2 ≤ 191) then 3 else 0)
  else if 225 ≤ b0 ∧ b0 ≤ 239 then (if 3 ≤ n ∧ (128 ≤ b1 ∧ b1 ≤ 191) ∧ (128 ≤ b2 ∧ b2 ≤ 191) then 3 else 0)
  else if b0 = 240 then (if 4 ≤ n ∧ (144 ≤ b1 ∧ b1 ≤ 191) ∧ (128 ≤ b2 ∧ b2 ≤ 191) ∧ (128 ≤ b3 ∧ b3 ≤ 191) then 4 else 0)
  else if 241 ≤ b0 ∧ b0 ≤ 243 then (if 4 ≤ n ∧ (128 ≤ b1 ∧ b1 ≤ 191) ∧ (128 ≤ b2 ∧ b2 ≤ 191) ∧ (128 ≤ b3 ∧ b3 ≤ 191) then 4 else 0)
  else if b0 = 244 then (if 4 ≤ n ∧ (128 ≤ b1 ∧ b1 ≤ 143) ∧ (128 ≤ b2 ∧ b2 ≤ 191) ∧ (128 ≤ b3 ∧ b3 ≤ 191) then 4 else 0)
  else 0
theorem div64 {b : Nat} : b / 64 = 2 ↔ 128 ≤ b ∧ b ≤ 191 := by omega
set_option maxHeartbeats 4000000 in
theorem headN_decodeN (n b0 b1 b2 b3 : Nat) (h0 : b0 < 256) (h1 : b1 < 256) (h2 : b2 < 256) (h3 : b3 < 256) :
    (headN n b0 b1 b2 b3 = 0 ∧ Lib.decodeN n b0 b1 b2 b3 = (65533, 1)) ∨ (headN n b0 b1 b2 b3 ≠ 0 ∧ (Lib.decodeN n b0 b1 b2 b3).2 = headN n b0 b1 b2 b3 ∧ Lib.decodeN n b0 b1 b2 b3 ≠ (65533, 1)) := by
  unfold headN Lib.decodeN
  simp only [div64]
  by_cases a : b0 < 128
  · simp [a]; omega
  simp only [if_neg a]
  by_cases c2 : b0 / 32 = 6
  · have : ¬ b0 / 16 = 14 := by omega
    have : ¬ b0 / 8 = 30 := by omega
    repeat' split
    all_goals first | (left; exact ⟨rfl, rfl⟩) | (right; refine ⟨by omega, rfl, ?_⟩; simp only [ne_eq, Prod.mk.injEq]; omega) | (exfalso; omega)
  by_cases c3 : b0 / 16 = 14
  · have : ¬ b0 / 8 = 30 := by omega
    repeat' split
    all_goals first | (left; exact ⟨rfl, rfl⟩) | (right; refine ⟨by omega, rfl, ?_⟩; simp only [ne_eq, Prod.mk.injEq]; omega) | (exfalso; omega)
  by_cases c4 : b0 / 8 = 30
  · repeat' split
    all_goals first | (left; exact ⟨rfl, rfl⟩) | (right; refine ⟨by omega, rfl, ?_⟩; simp only [ne_eq, Prod.mk.injEq]; omega) | (exfalso; omega)
  · repeat' split
    all_goals first | (left; exact ⟨rfl, rfl⟩) | (exfalso; omega)
end Go.Proofs.YtabogkonklplcaaGreatDoor

namespace Go.Proofs.YtabogkonklplcaaGreatDoor
open Go.RowKit
set_option linter.unusedSimpArgs false
set_option linter.unusedVariables false
def byteN (t : ByteArray) (i : Nat) : Nat := (t.get! i).toNat
theorem byteN_lt (t : ByteArray) (i : Nat) : byteN t i < 256 := (t.get! i).toNat_lt
theorem byteI_nat (t : ByteArray) (i : Nat) (h : i < t.size) : byteI t i = (byteN t i : Int) := by
  have e : t.get! i = t[i]'h := by
    cases t with
    | mk d => exact getElem!_pos d i h
  unfold byteI byteN
  rw [dif_pos h, e]
theorem byteI_extract (t : ByteArray) (p q i : Nat) (h : p + i < q) (hq : q ≤ t.size) : byteI (t.extract p q) i = byteI t (p + i) := by
  unfold byteI
  rw [dif_pos (by rw [ByteArray.size_extract]; omega), dif_pos (by omega)]
  rw [ByteArray.getElem_extract]
theorem headW_1 (t : ByteArray) (lo hi : Int) (hm : moreF (byteI t 0) = (1, lo, hi)) : headW t = if 2 ≤ t.size ∧ lo ≤ byteI t 1 ∧ byteI t 1 ≤ hi then 2 else 0 := by
  unfold headW
  simp only [hm]
  have e : (1 : Int).toNat = 1 := rfl
  simp only [e, okTail, Bool.true_and, decide_eq_true_eq, if_true, Nat.zero_add]
  repeat' split
  all_goals first | rfl | (exfalso; omega)
theorem headW_2 (t : ByteArray) (lo hi : Int) (hm : moreF (byteI t 0) = (2, lo, hi)) : headW t = if 3 ≤ t.size ∧ (lo ≤ byteI t 1 ∧ byteI t 1 ≤ hi) ∧ (128 ≤ byteI t 2 ∧ byteI t 2 ≤ 191) then 3 else 0 := by
  unfold headW
  simp only [hm]
  have e : (2 : Int).toNat = 2 := rfl
  simp only [e, okTail, Bool.true_and, Bool.and_eq_true, decide_eq_true_eq, if_true, Nat.zero_add, Nat.reduceAdd, Nat.succ_ne_zero, if_false]
  repeat' split
  all_goals first | rfl | (exfalso; omega)
theorem headW_3 (t : ByteArray) (lo hi : Int) (hm : moreF (byteI t 0) = (3, lo, hi)) : headW t = if 4 ≤ t.size ∧ (lo ≤ byteI t 1 ∧ byteI t 1 ≤ hi) ∧ (128 ≤ byteI t 2 ∧ byteI t 2 ≤ 191) ∧ (128 ≤ byteI t 3 ∧ byteI t 3 ≤ 191) then 4 else 0 := by
  unfold headW
  simp only [hm]
  have e : (3 : Int).toNat = 3 := rfl
  simp only [e, okTail, Bool.true_and, Bool.and_eq_true, decide_eq_true_eq, if_true, Nat.zero_add, Nat.reduceAdd, Nat.succ_ne_zero, if_false]
  repeat' split
  all_goals first | rfl | (exfalso; omega)
set_option maxHeartbeats 2000000 in
theorem headW_eq (t : ByteArray) (h : 0 < t.size) (b0 b1 b2 b3 : Nat) (e0 : byteI t 0 = b0) (e1 : 1 < t.size → byteI t 1 = b1) (e2 : 2 < t.size → byteI t 2 = b2) (e3 : 3 < t.size → byteI t 3 = b3) :
    headW t = headN t.size b0 b1 b2 b3 := by
  unfold headN
  have mo : ∀ x, moreF (b0 : Int) = x → moreF (byteI t 0) = x := fun x hx => by rw [e0]; exact hx
  by_cases a : b0 < 128
  · rw [if_pos a]
    have hm := mo (0, 0, 0) (by unfold moreF; rw [if_pos (by omega)])
    unfold headW
    simp only [hm]
    rw [if_neg (by omega)]
    rfl
  rw [if_neg a]
  by_cases c1 : 194 ≤ b0 ∧ b0 ≤ 223
  · rw [if_pos c1, headW_1 t 128 191 (mo _ (by unfold moreF; (repeat' split) <;> first | rfl | (exfalso; omega)))]
    repeat' split
    all_goals first | rfl | (exfalso; omega)
  rw [if_neg c1]
  by_cases c2 : b0 = 224
  · rw [if_pos c2, headW_2 t 160 191 (mo _ (by unfold moreF; (repeat' split) <;> first | rfl | (exfalso; omega)))]
    repeat' split
    all_goals first | rfl | (exfalso; omega)
  rw [if_neg c2]
  by_cases c3 : b0 = 237
  · rw [if_pos c3, headW_2 t 128 159 (mo _ (by unfold moreF; (repeat' split) <;> first | rfl | (exfalso; omega)))]
    repeat' split
    all_goals first | rfl | (exfalso; omega)
  rw [if_neg c3]
  by_cases c4 : 225 ≤ b0 ∧ b0 ≤ 239
  · rw [if_pos c4, headW_2 t 128 191 (mo _ (by unfold moreF; (repeat' split) <;> first | rfl | (exfalso; omega)))]
    repeat' split
    all_goals first | rfl | (exfalso; omega)
  rw [if_neg c4]
  by_cases c5 : b0 = 240
  · rw [if_pos c5, headW_3 t 144 191 (mo _ (by unfold moreF; (repeat' split) <;> first | rfl | (exfalso; omega)))]
    repeat' split
    all_goals first | rfl | (exfalso; omega)
  rw [if_neg c5]
  by_cases c6 : 241 ≤ b0 ∧ b0 ≤ 243
  · rw [if_pos c6, headW_3 t 128 191 (mo _ (by unfold moreF; (repeat' split) <;> first | rfl | (exfalso; omega)))]
    repeat' split
    all_goals first | rfl | (exfalso; omega)
  rw [if_neg c6]
  by_cases c7 : b0 = 244
  · rw [if_pos c7, headW_3 t 128 143 (mo _ (by unfold moreF; (repeat' split) <;> first | rfl | (exfalso; omega)))]
    repeat' split
    all_goals first | rfl | (exfalso; omega)
  rw [if_neg c7]
  have hm := mo (-1, 0, 0) (by unfold moreF; (repeat' split) <;> first | rfl | (exfalso; omega))
  unfold headW
  simp only [hm]
  rw [if_pos (by omega)]
theorem headW_at (t : ByteArray) (p : Nat) (h : p < t.size) :
    (headW (t.extract p t.size) = 0 ∧ Utf8.decode t p = (65533, 1)) ∨ (headW (t.extract p t.size) ≠ 0 ∧ (Utf8.decode t p).2 = headW (t.extract p t.size) ∧ Utf8.decode t p ≠ (65533, 1)) := by
  have hs : (t.extract p t.size).size = t.size - p := by rw [ByteArray.size_extract]; omega
  have e : headW (t.extract p t.size) = headN (t.size - p) (byteN t p) (byteN t (p + 1)) (byteN t (p + 2)) (byteN t (p + 3)) := by
    rw [← hs]
    refine headW_eq _ (by omega) _ _ _ _ ?_ ?_ ?_ ?_
    · rw [byteI_extract t p t.size 0 (by omega) (Nat.le_refl _)]; exact byteI_nat t p h
    · intro h1; rw [byteI_extract t p t.size 1 (by omega) (Nat.le_refl _)]; exact byteI_nat t _ (by omega)
    · intro h1; rw [byteI_extract t p t.size 2 (by omega) (Nat.le_refl _)]; exact byteI_nat t _ (by omega)
    · intro h1; rw [byteI_extract t p t.size 3 (by omega) (Nat.le_refl _)]; exact byteI_nat t _ (by omega)
  rw [e, Lib.decode_at]
  exact headN_decodeN _ _ _ _ _ (byteN_lt _ _) (byteN_lt _ _) (byteN_lt _ _) (byteN_lt _ _)
end Go.Proofs.YtabogkonklplcaaGreatDoor

namespace Go.Proofs.YtabogkonklplcaaGreatDoor
open Go.RowKit
set_option linter.unusedSimpArgs false
set_option linter.unusedVariables false
structure PN where
  p : Int
  t : Bool
  kv : Value
  ch : ByteArray
def PN.cells (r : PN) : List Value := [.int .i64 r.p, .bool r.t, r.kv, .string r.ch]
theorem pcells_get (rn : List PN) (i : Nat) (r : PN) (h : rn[i]? = some r) (j : Nat) (hj : j < 4) : (rn.flatMap PN.cells)[i * 4 + j]? = r.cells[j]? := by
  induction rn generalizing i with
  | nil => simp at h
  | cons a l ih =>
    cases i with
    | zero =>
      simp at h; subst h
      rw [List.flatMap_cons, Nat.zero_mul, Nat.zero_add, List.getElem?_append_left (by simpa [PN.cells] using hj)]
    | succ i =>
      have e : (i + 1) * 4 + j = (i * 4 + j) + 4 := by omega
      rw [e, List.flatMap_cons, List.getElem?_append_right (by simp [PN.cells])]
      simpa [PN.cells] using ih i (by simpa using h)
theorem pcells_set (rn : List PN) (i : Nat) (r r' : PN) (h : rn[i]? = some r) (j : Nat) (hj : j < 4) (u : Value) (he : r'.cells = r.cells.set j u) :
    (rn.flatMap PN.cells).set (i * 4 + j) u = (rn.set i r').flatMap PN.cells := by
  induction rn generalizing i with
  | nil => simp at h
  | cons a l ih =>
    cases i with
    | zero =>
      simp at h; subst h
      simp only [List.flatMap_cons, List.set_cons_zero, Nat.zero_mul, Nat.zero_add]
      rw [List.set_append_left _ _ (by simpa [PN.cells] using hj), ← he]
    | succ i =>
      have e : (i + 1) * 4 + j = (i * 4 + j) + 4 := by omega
      simp only [List.flatMap_cons, List.set_cons_succ]
      rw [e, List.set_append_right _ _ (by simp [PN.cells])]
      congr 1
      simpa [PN.cells] using ih i (by simpa using h)
def catB (l : List ByteArray) : ByteArray := l.foldl (· ++ ·) ⟨#[]⟩
structure POk (w : World) (F : Nat → Prop) (bf bn : Nat) (r : PN) (x : Nd) : Prop where
  t : r.t = x.t
  p : r.p = x.p
  ch : r.ch = catB x.cs
  kids : w.ownsRow 0 3 1 r.kv x.ks.length (intsV x.ks)
  apart : ∀ b, r.kv.ownBlock = some b → F b ∧ b ≠ bf ∧ b ≠ bn
structure PForAt (w : World) (F : Nat → Prop) (bf bn cap : Nat) (pn : List PN) (s : List Nd) : Prop where
  forest : w.heap[bf]? = some (.cells #[.slice (some ⟨bn, 0, none⟩) pn.length cap] 167 (0, 0))
  nodes : w.ownsRow 0 164 4 (.slice (some ⟨bn, 0, none⟩) pn.length cap) pn.length (pn.flatMap PN.cells)
  Ff : F bf
  Fn : F bn
  ne : bf ≠ bn
  len : pn.length = s.length
  ok : ∀ (i : Nat) (r : PN) (x : Nd), pn[i]? = some r → s[i]? = some x → POk w F bf bn r x
  sep : ∀ (i j : Nat) (r r' : PN), i ≠ j → pn[i]? = some r → pn[j]? = some r' → ∀ b, r.kv.ownBlock = some b → r'.kv.ownBlock ≠ some b
def PFor (w : World) (F : Nat → Prop) (bf : Nat) (s : List Nd) : Prop := ∃ bn cap pn, PForAt w F bf bn cap pn s
section
variable {w : World} {F : Nat → Prop} {bf bn cap : Nat} {pn : List PN} {s : List Nd}
theorem PForAt.nodesCell (h : PForAt w F bf bn cap pn s) : w.cell? ⟨bf, 0, none⟩ = some (.slice (some ⟨bn, 0, none⟩) s.length cap) := by
  rw [cell_of_heap h.forest, ← h.len]; rfl
theorem PForAt.lt (h : PForAt w F bf bn cap pn s) : bf < w.heap.size ∧ bn < w.heap.size := ⟨heap_lt h.forest, (h.nodes.lt bn rfl).2⟩
theorem PForAt.raw (h : PForAt w F bf bn cap pn s) {i : Nat} {x : Nd} (hx : s[i]? = some x) : ∃ r, pn[i]? = some r ∧ POk w F bf bn r x := by
  have hi : i < pn.length := by rw [h.len]; exact (List.getElem?_eq_some_iff.1 hx).1
  exact ⟨pn[i], List.getElem?_eq_getElem hi, h.ok i _ x (List.getElem?_eq_getElem hi) hx⟩
theorem PForAt.cellAt (h : PForAt w F bf bn cap pn s) {i : Nat} {r : PN} (hr : pn[i]? = some r) (j : Nat) (hj : j < 4) : w.cell? ⟨bn, i * 4 + j, none⟩ = r.cells[j]? := by
  have hi := (List.getElem?_eq_some_iff.1 hr).1
  rw [h.nodes.cellAt (i * 4 + j) (by omega), pcells_get pn i r hr j hj]
theorem PForAt.look (h : PForAt w F bf bn cap pn s) {i : Nat} {x : Nd} (hx : s[i]? = some x) : ∃ r, pn[i]? = some r ∧ POk w F bf bn r x ∧
    w.cell? ⟨bn, i * 4, none⟩ = some (.int .i64 x.p) ∧ w.cell? ⟨bn, i * 4 + 1, none⟩ = some (.bool x.t) ∧ w.cell? ⟨bn, i * 4 + 2, none⟩ = some r.kv ∧ w.cell? ⟨bn, i * 4 + 3, none⟩ = some (.string (catB x.cs)) := by
  obtain ⟨r, hr, ho⟩ := h.raw hx
  have h0 := h.cellAt hr 0 (by omega)
  have h1 := h.cellAt hr 1 (by omega)
  have h2 := h.cellAt hr 2 (by omega)
  have h3 := h.cellAt hr 3 (by omega)
  refine ⟨r, hr, ho, ?_, ?_, ?_, ?_⟩
  · simpa [PN.cells, ho.p] using h0
  · simpa [PN.cells, ho.t] using h1
  · simpa [PN.cells] using h2
  · simpa [PN.cells, ho.ch] using h3
theorem POk.keeps {G : Nat → Prop} {w' : World} {r : PN} {x : Nd} (o : POk w F bf bn r x) (hk : Keeps G w w') (hG : ∀ b, r.kv.ownBlock = some b → ¬ G b) : POk w' F bf bn r x :=
  ⟨o.t, o.p, o.ch, hk.row o.kids hG, o.apart⟩
theorem PForAt.keeps {G : Nat → Prop} {w' : World} (h : PForAt w F bf bn cap pn s) (hk : Keeps G w w') (hG : ∀ b, F b → ¬ G b) : PForAt w' F bf bn cap pn s where
  forest := by rw [hk.block bf (heap_lt h.forest) (hG _ h.Ff)]; exact h.forest
  nodes := hk.row h.nodes (fun b e => by cases e; exact hG _ h.Fn)
  Ff := h.Ff
  Fn := h.Fn
  ne := h.ne
  len := h.len
  ok := fun i r x hr hx => (h.ok i r x hr hx).keeps hk (fun b e => hG _ ((h.ok i r x hr hx).apart b e).1)
  sep := h.sep
theorem PForAt.below {w' : World} (h : PForAt w F bf bn cap pn s) (hk : Below w.heap.size w w') : PForAt w' F bf bn cap pn s :=
  h.keeps (Keeps.of_below (F := fun _ => False) hk) (fun _ _ e => e)
theorem PForAt.wider {G : Nat → Prop} (h : PForAt w F bf bn cap pn s) (hG : ∀ b, F b → G b) : PForAt w G bf bn cap pn s where
  forest := h.forest
  nodes := h.nodes
  Ff := hG _ h.Ff
  Fn := hG _ h.Fn
  ne := h.ne
  len := h.len
  ok := fun i r x hr hx =>
    have o := h.ok i r x hr hx
    ⟨o.t, o.p, o.ch, o.kids, fun b e => ⟨hG _ (o.apart b e).1, (o.apart b e).2⟩⟩
  sep := h.sep
theorem PForAt.narrow (h : PForAt w F bf bn cap pn s) : PForAt w (fun b => F b ∧ b < w.heap.size) bf bn cap pn s where
  forest := h.forest
  nodes := h.nodes
  Ff := ⟨h.Ff, h.lt.1⟩
  Fn := ⟨h.Fn, h.lt.2⟩
  ne := h.ne
  len := h.len
  ok := fun i r x hr hx =>
    have o := h.ok i r x hr hx
    ⟨o.t, o.p, o.ch, o.kids, fun b e => ⟨⟨(o.apart b e).1, (o.kids.lt b e).2⟩, (o.apart b e).2⟩⟩
  sep := h.sep
theorem PForAt.drewN (h : PForAt w F bf bn cap pn s) (n : Nat) : PForAt (w.drewN n) F bf bn cap pn s :=
  h.keeps (G := fun _ => False) ⟨rfl, rfl, rfl, Nat.le_refl _, fun _ _ _ => rfl⟩ (fun _ _ e => e)
theorem PForAt.drew (h : PForAt w F bf bn cap pn s) : PForAt w.drew F bf bn cap pn s := h.drewN 1
theorem PForAt.pushed (h : PForAt w F bf bn cap pn s) {w1 : World} {g cap' B : Nat} {r : PN} {x : Nd} (hB : B ≤ w.heap.size) (hg : w.grownBy w1 (some bn))
    (ho : w1.ownsRow 0 164 4 (.slice (some ⟨g, 0, none⟩) (pn.length + 1) cap') (pn.length + 1) (pn.flatMap PN.cells ++ r.cells)) (hgn : g = bn ∨ g = w.heap.size)
    (hn : r.kv = .slice none 0 0 ∧ r.t = x.t ∧ r.p = x.p ∧ r.ch = catB x.cs ∧ x.ks = []) :
    PForAt (w1.setCell ⟨bf, 0, none⟩ (.slice (some ⟨g, 0, none⟩) (pn.length + 1) cap')) (fun b => F b ∨ B ≤ b) bf g cap' (pn ++ [r]) (s ++ [x]) := by
  have hlt := h.lt
  have hgd : bf ≠ g := by
    rcases hgn with e | e
    · rw [e]; exact h.ne
    · omega
  have hk1 : Keeps (fun b => b = bn) w w1 := Keeps.grown hg (fun k e => by cases e; exact .inl rfl)
  have hk : Keeps (fun b => b = bn ∨ b = bf) w (w1.setCell ⟨bf, 0, none⟩ (.slice (some ⟨g, 0, none⟩) (pn.length + 1) cap')) :=
    (hk1.mono (fun k _ e => .inl e)).setCell (p := ⟨bf, 0, none⟩) (.inl (.inr rfl)) _
  have far : ∀ b, b < w.heap.size → b ≠ bn → b ≠ g := fun b hb hbn => by
    rcases hgn with e | e
    · rw [e]; exact hbn
    · omega
  refine ⟨?_, ?_, .inl h.Ff, ?_, hgd, by simp [h.len], ?_, ?_⟩
  · have e1 : w1.heap[bf]? = _ := (hk1.block bf hlt.1 h.ne).trans h.forest
    rw [heap_setCell_same w1 bf 0 _ _ _ e1]
    simp
  · rw [List.length_append, List.flatMap_append]
    simpa using row_setCell_other ho (p := ⟨bf, 0, none⟩) (by simp [Value.ownBlock]; exact fun e => hgd e.symm) _
  · rcases hgn with e | e
    · rw [e]; exact .inl h.Fn
    · exact .inr (by omega)
  · intro i r1 x1 h1 h2
    by_cases hi : i < pn.length
    · rw [List.getElem?_append_left hi] at h1
      rw [List.getElem?_append_left (by rw [← h.len]; exact hi)] at h2
      have o := h.ok i r1 x1 h1 h2
      refine ⟨o.t, o.p, o.ch, hk.row o.kids (fun b e e2 => ?_), fun b e => ⟨.inl (o.apart b e).1, (o.apart b e).2.1, far b (o.kids.lt b e).2 (o.apart b e).2.2⟩⟩
      rcases e2 with e2 | e2
      · exact (o.apart b e).2.2 e2
      · exact (o.apart b e).2.1 e2
    · have hi1 := (List.getElem?_eq_some_iff.1 h1).1
      simp at hi1
      have ei : i = pn.length := by omega
      subst ei
      rw [List.getElem?_append_right (Nat.le_refl _)] at h1
      rw [List.getElem?_append_right (by rw [← h.len]; exact Nat.le_refl _)] at h2
      simp at h1
      simp [h.len] at h2
      subst h1
      subst h2
      obtain ⟨e1, e2, e3, e4, e5⟩ := hn
      refine ⟨e2, e3, e4, ?_, ?_⟩
      · rw [e1, e5]; exact World.ownsRow_nil _ _ _ _
      · rw [e1]; intro b e; cases e
  · intro i j r1 r2 hij h1 h2 b e
    have hnil : r.kv.ownBlock = none := by rw [hn.1]; rfl
    by_cases hi : i < pn.length
    · rw [List.getElem?_append_left hi] at h1
      by_cases hj : j < pn.length
      · rw [List.getElem?_append_left hj] at h2
        exact h.sep i j r1 r2 hij h1 h2 b e
      · rw [List.getElem?_append_right (by omega)] at h2
        have hj1 := (List.getElem?_eq_some_iff.1 h2).1
        simp at hj1
        have : j - pn.length = 0 := by omega
        rw [this] at h2
        simp at h2
        subst h2
        rw [hnil]; simp
    · rw [List.getElem?_append_right (by omega)] at h1
      have hj1 := (List.getElem?_eq_some_iff.1 h1).1
      simp at hj1
      have : i - pn.length = 0 := by omega
      rw [this] at h1
      simp at h1
      subst h1
      rw [hnil] at e; cases e
theorem PForAt.setNode (h : PForAt w F bf bn cap pn s) {i : Nat} {r r' : PN} {x x' : Nd} (hr : pn[i]? = some r) (hx : s[i]? = some x) (j : Nat) (hj : j < 4) (u : Value) (he : r'.cells = r.cells.set j u) (ho : POk w F bf bn r' x')
    (hs : ∀ (k : Nat) (r1 : PN), k ≠ i → pn[k]? = some r1 → ∀ b, r'.kv.ownBlock = some b → r1.kv.ownBlock ≠ some b) :
    PForAt (w.setCell ⟨bn, i * 4 + j, none⟩ u) F bf bn cap (pn.set i r') (s.set i x') := by
  have hk : Keeps (fun b => b = bn) w (w.setCell ⟨bn, i * 4 + j, none⟩ u) := (Keeps.refl (fun b => b = bn) w).setCell (p := ⟨bn, i * 4 + j, none⟩) (.inl rfl) u
  have hi := (List.getElem?_eq_some_iff.1 hr).1
  have hi' := (List.getElem?_eq_some_iff.1 hx).1
  refine ⟨?_, ?_, h.Ff, h.Fn, h.ne, by simpa using h.len, ?_, ?_⟩
  · rw [hk.block bf (heap_lt h.forest) h.ne, List.length_set]; exact h.forest
  · have := (h.nodes.stored (i * 4 + j) u).1
    rw [pcells_set pn i r r' hr j hj u he] at this
    rw [List.length_set]
    exact this
  · intro k r1 x1 h1 h2
    rw [List.getElem?_set] at h1 h2
    by_cases hik : i = k
    · subst hik
      rw [if_pos rfl, if_pos hi] at h1
      rw [if_pos rfl, if_pos hi'] at h2
      cases h1
      cases h2
      exact ho.keeps hk (fun b e e2 => (ho.apart b e).2.2 e2)
    · rw [if_neg hik] at h1 h2
      have o := h.ok k r1 x1 h1 h2
      exact o.keeps hk (fun b e e2 => (o.apart b e).2.2 e2)
  · intro a b ra rb hab h1 h2 c e
    rw [List.getElem?_set] at h1 h2
    by_cases ha : i = a
    · subst ha
      rw [if_pos rfl, if_pos hi] at h1
      cases h1
      rw [if_neg hab] at h2
      exact hs b rb (fun e => hab e.symm) h2 c e
    · rw [if_neg ha] at h1
      by_cases hb : i = b
      · subst hb
        rw [if_pos rfl, if_pos hi] at h2
        cases h2
        intro e2
        exact hs a ra (fun e => ha e.symm) h1 c e2 e
      · rw [if_neg hb] at h2
        exact h.sep a b ra rb hab h1 h2 c e
theorem PForAt.newPar (h : PForAt w F bf bn cap pn s) {i : Nat} {x : Nd} (p : Int) (hx : s[i]? = some x) :
    ∃ pn2, PForAt (w.setCell ⟨bn, i * 4, none⟩ (.int .i64 p)) F bf bn cap pn2 (s.set i { x with p := p }) := by
  obtain ⟨r, hr, ho⟩ := h.raw hx
  exact ⟨_, h.setNode (r' := { r with p := p }) hr hx 0 (by omega) _ rfl ⟨ho.t, rfl, ho.ch, ho.kids, ho.apart⟩ (fun k r1 hk h1 b e => h.sep i k r r1 (fun e => hk e.symm) hr h1 b e)⟩
end
end Go.Proofs.YtabogkonklplcaaGreatDoor

namespace Go.Proofs.YtabogkonklplcaaGreatDoor
open Go.RowKit
set_option linter.unusedSimpArgs false
set_option linter.unusedVariables false
theorem charsAt_end (t : ByteArray) (p : Nat) (h : t.size ≤ p) : charsOf (t.extract p t.size) = some [] := by
  rw [charsOf_step, if_pos (by rw [ByteArray.size_extract]; omega)]
theorem charsAt_bad (t : ByteArray) (p : Nat) (h : p < t.size) (hd : Utf8.decode t p = (65533, 1)) : charsOf (t.extract p t.size) = none := by
  rcases headW_at t p h with ⟨h0, _⟩ | ⟨_, _, h2⟩
  · rw [charsOf_step, if_neg (by rw [ByteArray.size_extract]; omega), if_pos h0]
  · exact absurd hd h2
theorem width_le (t : ByteArray) (p : Nat) (h : p < t.size) (hd : Utf8.decode t p ≠ (65533, 1)) : 0 < (Utf8.decode t p).2 ∧ p + (Utf8.decode t p).2 ≤ t.size := by
  rcases headW_at t p h with ⟨_, h0⟩ | ⟨h1, h2, _⟩
  · exact absurd h0 hd
  · have := headW_le (t.extract p t.size)
    rw [ByteArray.size_extract] at this
    rw [h2]
    omega
theorem charsAt_good (t : ByteArray) (p : Nat) (h : p < t.size) (hd : Utf8.decode t p ≠ (65533, 1)) :
    charsOf (t.extract p t.size) = (charsOf (t.extract (p + (Utf8.decode t p).2) t.size)).map (t.extract p (p + (Utf8.decode t p).2) :: ·) := by
  have hw := width_le t p h hd
  rcases headW_at t p h with ⟨_, h0⟩ | ⟨h1, h2, _⟩
  · exact absurd h0 hd
  · rw [charsOf_step, if_neg (by rw [ByteArray.size_extract]; omega), if_neg h1, ← h2]
    rw [ByteArray.size_extract, ByteArray.extract_extract, ByteArray.extract_extract]
    have e1 : min (p + (min t.size t.size - p)) t.size = t.size := by omega
    have e2 : min (p + (Utf8.decode t p).2) t.size = p + (Utf8.decode t p).2 := by omega
    rw [e1, e2]
    rfl
theorem if_cut {n m k : Nat} {q : Prop} {d : Decidable (m ≤ n ∧ q)} {d' : Decidable (m ≤ (if m ≤ n ∧ q then k else 0) ∧ q)} (hk : m ≤ k) (h : (if m ≤ n ∧ q then k else 0) ≠ 0) :
    (if m ≤ (if m ≤ n ∧ q then k else 0) ∧ q then k else 0) = if m ≤ n ∧ q then k else 0 := by
  by_cases c : m ≤ n ∧ q
  · have e : (if m ≤ n ∧ q then k else 0) = k := if_pos c
    exact (if_pos ⟨by rw [e]; exact hk, c.2⟩).trans e.symm
  · rw [if_neg c] at h; exact absurd rfl h
theorem headN_cut {n b0 b1 b2 b3 : Nat} (h : headN n b0 b1 b2 b3 ≠ 0) : headN (headN n b0 b1 b2 b3) b0 b1 b2 b3 = headN n b0 b1 b2 b3 := by
  unfold headN at h ⊢
  by_cases a : b0 < 128
  · simp only [if_pos a]
  simp only [if_neg a] at h ⊢
  by_cases c1 : 194 ≤ b0 ∧ b0 ≤ 223
  · simp only [if_pos c1] at h ⊢
    exact if_cut (by decide) h
  simp only [if_neg c1] at h ⊢
  by_cases c2 : b0 = 224
  · simp only [if_pos c2] at h ⊢
    exact if_cut (by decide) h
  simp only [if_neg c2] at h ⊢
  by_cases c3 : b0 = 237
  · simp only [if_pos c3] at h ⊢
    exact if_cut (by decide) h
  simp only [if_neg c3] at h ⊢
  by_cases c4 : 225 ≤ b0 ∧ b0 ≤ 239
  · simp only [if_pos c4] at h ⊢
    exact if_cut (by decide) h
  simp only [if_neg c4] at h ⊢
  by_cases c5 : b0 = 240
  · simp only [if_pos c5] at h ⊢
    exact if_cut (by decide) h
  simp only [if_neg c5] at h ⊢
  by_cases c6 : 241 ≤ b0 ∧ b0 ≤ 243
  · simp only [if_pos c6] at h ⊢
    exact if_cut (by decide) h
  simp only [if_neg c6] at h ⊢
  by_cases c7 : b0 = 244
  · simp only [if_pos c7] at h ⊢
    exact if_cut (by decide) h
  simp only [if_neg c7] at h ⊢
theorem isCh_head (t : ByteArray) (h : headW t ≠ 0) : IsCh (t.extract 0 (headW t)) := by
  have hle := headW_le t
  have hsz : (t.extract 0 (headW t)).size = headW t := by rw [ByteArray.size_extract]; omega
  refine ⟨by omega, ?_⟩
  have hb : ∀ i, i < headW t → byteI (t.extract 0 (headW t)) i = byteI t i := fun i hi => by rw [byteI_extract t 0 (headW t) i (by omega) hle, Nat.zero_add]
  have e1 := headW_eq t (by omega) (byteN t 0) (byteN t 1) (byteN t 2) (byteN t 3) (byteI_nat t 0 (by omega)) (fun h => byteI_nat t 1 h) (fun h => byteI_nat t 2 h) (fun h => byteI_nat t 3 h)
  have e2 := headW_eq (t.extract 0 (headW t)) (by omega) (byteN t 0) (byteN t 1) (byteN t 2) (byteN t 3) (by rw [hb 0 (by omega)]; exact byteI_nat t 0 (by omega)) (fun h => by rw [hb 1 (by omega)]; exact byteI_nat t 1 (by omega)) (fun h => by rw [hb 2 (by omega)]; exact byteI_nat t 2 (by omega)) (fun h => by rw [hb 3 (by omega)]; exact byteI_nat t 3 (by omega))
  rw [e2, hsz]
  rw [e1] at h ⊢
  exact headN_cut h
theorem charsOf_isCh (k : Nat) : ∀ (t : ByteArray) (l : List ByteArray), t.size ≤ k → charsOf t = some l → ∀ c ∈ l, IsCh c := by
  induction k with
  | zero =>
    intro t l hk h c hc
    rw [charsOf_step, if_pos (by omega)] at h
    cases h
    cases hc
  | succ k ih =>
    intro t l hk h c hc
    rw [charsOf_step] at h
    by_cases h0 : t.size = 0
    · rw [if_pos h0] at h; cases h; cases hc
    · rw [if_neg h0] at h
      by_cases h1 : headW t = 0
      · rw [if_pos h1] at h; cases h
      · rw [if_neg h1, Option.map_eq_some_iff] at h
        obtain ⟨l', h2, rfl⟩ := h
        rcases List.mem_cons.1 hc with rfl | hc
        · exact isCh_head t h1
        · exact ih _ l' (by rw [ByteArray.size_extract]; omega) h2 c hc
theorem catB_cons (c : ByteArray) (l : List ByteArray) : catB (c :: l) = c ++ catB l := by
  have g : ∀ (l : List ByteArray) (a : ByteArray), l.foldl (· ++ ·) a = a ++ l.foldl (· ++ ·) ⟨#[]⟩ := by
    intro l
    induction l with
    | nil => intro a; show a = a ++ ByteArray.empty; simp
    | cons b l ih =>
      intro a
      rw [List.foldl_cons, List.foldl_cons, ih (a ++ b), ih (⟨#[]⟩ ++ b), ← ByteArray.append_assoc]
      have e : (⟨#[]⟩ : ByteArray) ++ b = b := by show ByteArray.empty ++ b = b; simp
      rw [e]
  show List.foldl (· ++ ·) (⟨#[]⟩ ++ c) l = _
  rw [g]
  have e : (⟨#[]⟩ : ByteArray) ++ c = c := by show ByteArray.empty ++ c = c; simp
  rw [e]
  rfl
theorem charsOf_cat (k : Nat) : ∀ (t : ByteArray) (l : List ByteArray), t.size ≤ k → charsOf t = some l → catB l = t := by
  induction k with
  | zero =>
    intro t l hk h
    rw [charsOf_step, if_pos (by omega)] at h
    cases h
    exact (ByteArray.size_eq_zero_iff.1 (by omega)).symm
  | succ k ih =>
    intro t l hk h
    rw [charsOf_step] at h
    by_cases h0 : t.size = 0
    · rw [if_pos h0] at h; cases h; exact (ByteArray.size_eq_zero_iff.1 h0).symm
    · rw [if_neg h0] at h
      by_cases h1 : headW t = 0
      · rw [if_pos h1] at h; cases h
      · rw [if_neg h1, Option.map_eq_some_iff] at h
        obtain ⟨l', h2, rfl⟩ := h
        rw [catB_cons, ih _ l' (by rw [ByteArray.size_extract]; omega) h2, ← ByteArray.extract_eq_extract_append_extract (headW t) (by omega) (headW_le t)]
        simp
end Go.Proofs.YtabogkonklplcaaGreatDoor

namespace Go.Proofs
open Go.Shelf
def Tryz.lays169_ren : Go.Shelf.Ren := ⟨fun | 169 => 148 | n => n, fun | 70 => 216 | 9 => 9 | 0 => 0 | 72 => 219 | 37 => 217 | 127 => 252 | 3 => 3 | 5 => 5 | n => n, fun | n => n⟩
theorem Tryz.lays169 : Go.Proofs.Lays.n169 Tryz.prog Tryz.lays169_ren := {
  mixed := by kernel_rfl
  f169 := Tryz.func148.trans (congrArg some (by kernel_rfl))
  t0 := Tryz.underlying0
  a0 := Tryz.isAgg0
  z0 := Tryz.sizeOf0
  v0 := Tryz.zeroValue0
  t3 := Tryz.underlying3
  a3 := Tryz.isAgg3
  z3 := Tryz.sizeOf3
  v3 := Tryz.zeroValue3
  t9 := Tryz.underlying9
  a9 := Tryz.isAgg9
  z9 := Tryz.sizeOf9
  v9 := Tryz.zeroValue9
  t37 := Tryz.underlying217
  a37 := Tryz.isAgg217
  z37 := Tryz.sizeOf217
  v37 := Tryz.zeroValue217
  t70 := Tryz.underlying216
  a70 := Tryz.isAgg216
  z70 := Tryz.sizeOf216
  v70 := Tryz.zeroValue216
  t72 := Tryz.underlying219
  a72 := Tryz.isAgg219
  z72 := Tryz.sizeOf219
  v72 := Tryz.zeroValue219
  t127 := Tryz.underlying252
  a127 := Tryz.isAgg252
  z127 := Tryz.sizeOf252
  v127 := Tryz.zeroValue252 }
theorem Tryz.Builder_Extra_169 : Builder.Extra Tryz.prog Tryz.lays169_ren := {
  sizeBuilder := by kernel_rfl
  liesBuilder := by kernel_rfl
  t5 := Tryz.underlying5
  a5 := Tryz.isAgg5
  z5 := Tryz.sizeOf5
  v5 := Tryz.zeroValue5
  infoByte := by kernel_rfl
  cellsByte := by kernel_rfl
  sizeByte := by kernel_rfl
  neB5 := by decide }
open Go.RowKit in
theorem Tryz.Builder_String_any (B b : Nat) (l : List UInt8) (w : World) (h : Lib.IsBuilder 219 5 B b (Lib.byteCells l) w) (hBw : B ≤ w.heap.size) :
    Calls Tryz.prog 148 #[.pointer (some ⟨b, 0, none⟩)] w fun e w' => e = .returned (.string ⟨l.toArray⟩) ∧ Below B w w' := Any.Builder_String_any Tryz.lays169 Tryz.Builder_Extra_169 B b l w h hBw
def Tryz.lays156_ren : Go.Shelf.Ren := ⟨fun | 156 => 161 | 165 => 186 | 166 => 174 | 169 => 148 | 240 => 184 | 241 => 197 | 276 => 195 | 277 => 202 | n => n, fun | 31 => 107 | 9 => 9 | 3 => 3 | 4 => 4 | 0 => 0 | 20 => 20 | 72 => 219 | 76 => 62 | 70 => 216 | 37 => 217 | 75 => 29 | 127 => 252 | 164 => 203 | 5 => 5 | 80 => 221 | n => n, fun | n => n⟩
theorem Tryz.lays156 : Go.Proofs.Lays.n156 Tryz.prog Tryz.lays156_ren := {
  mixed := by kernel_rfl
  f156 := Tryz.func161.trans (congrArg some (by kernel_rfl))
  f165 := Tryz.func186.trans (congrArg some (by kernel_rfl))
  f166 := Tryz.func174.trans (congrArg some (by kernel_rfl))
  f169 := Tryz.func148.trans (congrArg some (by kernel_rfl))
  f240 := Tryz.func184.trans (congrArg some (by kernel_rfl))
  f241 := Tryz.func197.trans (congrArg some (by kernel_rfl))
  f276 := Tryz.func195.trans (congrArg some (by kernel_rfl))
  f277 := Tryz.func202.trans (congrArg some (by kernel_rfl))
  t0 := Tryz.underlying0
  a0 := Tryz.isAgg0
  z0 := Tryz.sizeOf0
  v0 := Tryz.zeroValue0
  t3 := Tryz.underlying3
  a3 := Tryz.isAgg3
  z3 := Tryz.sizeOf3
  v3 := Tryz.zeroValue3
  t4 := Tryz.underlying4
  a4 := Tryz.isAgg4
  z4 := Tryz.sizeOf4
  v4 := Tryz.zeroValue4
  t9 := Tryz.underlying9
  a9 := Tryz.isAgg9
  z9 := Tryz.sizeOf9
  v9 := Tryz.zeroValue9
  t20 := Tryz.underlying20
  a20 := Tryz.isAgg20
  z20 := Tryz.sizeOf20
  v20 := Tryz.zeroValue20
  t31 := Tryz.underlying107
  a31 := Tryz.isAgg107
  z31 := Tryz.sizeOf107
  v31 := Tryz.zeroValue107
  t37 := Tryz.underlying217
  a37 := Tryz.isAgg217
  z37 := Tryz.sizeOf217
  v37 := Tryz.zeroValue217
  t70 := Tryz.underlying216
  a70 := Tryz.isAgg216
  z70 := Tryz.sizeOf216
  v70 := Tryz.zeroValue216
  t72 := Tryz.underlying219
  a72 := Tryz.isAgg219
  z72 := Tryz.sizeOf219
  v72 := Tryz.zeroValue219
  t75 := Tryz.underlying29
  a75 := Tryz.isAgg29
  z75 := Tryz.sizeOf29
  v75 := Tryz.zeroValue29
  t76 := Tryz.underlying62
  a76 := Tryz.isAgg62
  z76 := Tryz.sizeOf62
  v76 := Tryz.zeroValue62
  t127 := Tryz.underlying252
  a127 := Tryz.isAgg252
  z127 := Tryz.sizeOf252
  v127 := Tryz.zeroValue252
  t164 := Tryz.underlying203
  a164 := Tryz.isAgg203
  z164 := Tryz.sizeOf203
  v164 := Tryz.zeroValue203 }
theorem Tryz.Builder_Extra_156 : Builder.Extra Tryz.prog Tryz.lays156_ren := {
  sizeBuilder := by kernel_rfl
  liesBuilder := by kernel_rfl
  t5 := Tryz.underlying5
  a5 := Tryz.isAgg5
  z5 := Tryz.sizeOf5
  v5 := Tryz.zeroValue5
  infoByte := by kernel_rfl
  cellsByte := by kernel_rfl
  sizeByte := by kernel_rfl
  neB5 := by decide }
open Go.RowKit in
theorem Tryz.strings_Join (bk o c : Nat) (xs : List ByteArray) (sep : ByteArray) (w : World) (hcells : ∀ (j : Nat) x, xs[j]? = some x → w.cell? ⟨bk, o + j, none⟩ = some (.string x)) (hbk : bk < w.heap.size) (hN : xs.length ≤ 140737488355328) (hcap : xs.length ≤ c) (hlen : (Lib.join (xs.map (·.data.toList)) sep.data.toList).length ≤ 140737488355328) :
    Calls Tryz.prog 161 #[.slice (some ⟨bk, o, none⟩) xs.length c, .string sep] w fun e w' => e = .returned (.string ⟨(Lib.join (xs.map (·.data.toList)) sep.data.toList).toArray⟩) ∧ Below w.heap.size w w' := Any.strings_Join Tryz.lays156 Tryz.Builder_Extra_156 bk o c xs sep w hcells hbk hN hcap hlen
def Tryz.lays122_ren : Go.Shelf.Ren := ⟨fun | 122 => 180 | 215 => 193 | n => n, fun | 3 => 3 | 4 => 4 | n => n, fun | n => n⟩
theorem Tryz.lays122 : Go.Proofs.Lays.n122 Tryz.prog Tryz.lays122_ren := {
  mixed := by kernel_rfl
  f122 := Tryz.func180.trans (congrArg some (by kernel_rfl))
  f215 := Tryz.func193.trans (congrArg some (by kernel_rfl))
  t3 := Tryz.underlying3
  a3 := Tryz.isAgg3
  z3 := Tryz.sizeOf3
  v3 := Tryz.zeroValue3
  t4 := Tryz.underlying4
  a4 := Tryz.isAgg4
  z4 := Tryz.sizeOf4
  v4 := Tryz.zeroValue4 }
open Go.RowKit in
theorem Tryz.cmp_Compare_int (x y : Int) (w : World) :
    Calls Tryz.prog 180 #[.int .i64 x, .int .i64 y] w fun e w' => e = .returned (.int .i64 (Lib.compareInt x y)) ∧ w' = w := Any.cmp_Compare_int Tryz.lays122 x y w
def Tryz.lays242_ren : Go.Shelf.Ren := ⟨fun | 242 => 185 | 278 => 196 | n => n, fun | 37 => 217 | 21 => 21 | 51 => 264 | 4 => 4 | 5 => 5 | 46 => 266 | n => n, fun | n => n⟩
theorem Tryz.lays242 : Go.Proofs.Lays.n242 Tryz.prog Tryz.lays242_ren := {
  mixed := by kernel_rfl
  f242 := Tryz.func185.trans (congrArg some (by kernel_rfl))
  f278 := Tryz.func196.trans (congrArg some (by kernel_rfl))
  t4 := Tryz.underlying4
  a4 := Tryz.isAgg4
  z4 := Tryz.sizeOf4
  v4 := Tryz.zeroValue4
  t5 := Tryz.underlying5
  a5 := Tryz.isAgg5
  z5 := Tryz.sizeOf5
  v5 := Tryz.zeroValue5
  t21 := Tryz.underlying21
  a21 := Tryz.isAgg21
  z21 := Tryz.sizeOf21
  v21 := Tryz.zeroValue21
  t37 := Tryz.underlying217
  a37 := Tryz.isAgg217
  z37 := Tryz.sizeOf217
  v37 := Tryz.zeroValue217
  t46 := Tryz.underlying266
  a46 := Tryz.isAgg266
  z46 := Tryz.sizeOf266
  v46 := Tryz.zeroValue266
  t51 := Tryz.underlying264
  a51 := Tryz.isAgg264
  z51 := Tryz.sizeOf264
  v51 := Tryz.zeroValue264 }
open Go.RowKit in
theorem Tryz.utf8_AppendRune_plain (B : Nat) (v : Value) (n : Nat) (xs : List Value) (r : Int) (hr0 : -2147483648 ≤ r) (hr1 : r ≤ 2147483647) (w : World) (hown : w.ownsRow B 5 1 v n xs) (hlen : n + 4 ≤ 140737488355328) (hBw : B ≤ w.heap.size) :
    Calls Tryz.prog 185 #[v, .int .i32 r] w fun e w' => ∃ v', e = .returned v' ∧ w'.ownsRow B 5 1 v' (n + (Lib.runeCells r).length) (xs ++ Lib.runeCells r) ∧ ∃ o, (w.alloc o).grownBy w' v.ownBlock := Any.utf8_AppendRune_plain Tryz.lays242 (by kernel_rfl) B v n xs r hr0 hr1 w hown hlen hBw
def Tryz.lays171_ren : Go.Shelf.Ren := ⟨fun | 171 => 175 | 243 => 192 | 246 => 201 | 283 => 203 | 284 => 204 | 285 => 205 | 286 => 206 | 129 => 208 | 317 => 207 | 318 => 209 | 319 => 210 | 320 => 211 | 337 => 212 | 338 => 213 | n => n, fun | 3 => 3 | 9 => 9 | 2 => 2 | 4 => 4 | 171 => 272 | 0 => 0 | 53 => 273 | 37 => 217 | 5 => 5 | 173 => 276 | 212 => 279 | 51 => 264 | 20 => 20 | 213 => 280 | 46 => 266 | 232 => 283 | 233 => 284 | n => n, fun | 17 => 4 | 18 => 5 | 19 => 6 | n => n⟩
theorem Tryz.lays171 : Go.Proofs.Lays.n171 Tryz.prog Tryz.lays171_ren := {
  mixed := by kernel_rfl
  f129 := Tryz.func208.trans (congrArg some (by kernel_rfl))
  f171 := Tryz.func175.trans (congrArg some (by kernel_rfl))
  f243 := Tryz.func192.trans (congrArg some (by kernel_rfl))
  f246 := Tryz.func201.trans (congrArg some (by kernel_rfl))
  f283 := Tryz.func203.trans (congrArg some (by kernel_rfl))
  f284 := Tryz.func204.trans (congrArg some (by kernel_rfl))
  f285 := Tryz.func205.trans (congrArg some (by kernel_rfl))
  f286 := Tryz.func206.trans (congrArg some (by kernel_rfl))
  f317 := Tryz.func207.trans (congrArg some (by kernel_rfl))
  f318 := Tryz.func209.trans (congrArg some (by kernel_rfl))
  f319 := Tryz.func210.trans (congrArg some (by kernel_rfl))
  f320 := Tryz.func211.trans (congrArg some (by kernel_rfl))
  f337 := Tryz.func212.trans (congrArg some (by kernel_rfl))
  f338 := Tryz.func213.trans (congrArg some (by kernel_rfl))
  t0 := Tryz.underlying0
  a0 := Tryz.isAgg0
  z0 := Tryz.sizeOf0
  v0 := Tryz.zeroValue0
  t2 := Tryz.underlying2
  a2 := Tryz.isAgg2
  z2 := Tryz.sizeOf2
  v2 := Tryz.zeroValue2
  t3 := Tryz.underlying3
  a3 := Tryz.isAgg3
  z3 := Tryz.sizeOf3
  v3 := Tryz.zeroValue3
  t4 := Tryz.underlying4
  a4 := Tryz.isAgg4
  z4 := Tryz.sizeOf4
  v4 := Tryz.zeroValue4
  t5 := Tryz.underlying5
  a5 := Tryz.isAgg5
  z5 := Tryz.sizeOf5
  v5 := Tryz.zeroValue5
  t9 := Tryz.underlying9
  a9 := Tryz.isAgg9
  z9 := Tryz.sizeOf9
  v9 := Tryz.zeroValue9
  t20 := Tryz.underlying20
  a20 := Tryz.isAgg20
  z20 := Tryz.sizeOf20
  v20 := Tryz.zeroValue20
  t37 := Tryz.underlying217
  a37 := Tryz.isAgg217
  z37 := Tryz.sizeOf217
  v37 := Tryz.zeroValue217
  t46 := Tryz.underlying266
  a46 := Tryz.isAgg266
  z46 := Tryz.sizeOf266
  v46 := Tryz.zeroValue266
  t51 := Tryz.underlying264
  a51 := Tryz.isAgg264
  z51 := Tryz.sizeOf264
  v51 := Tryz.zeroValue264
  t53 := Tryz.underlying273
  a53 := Tryz.isAgg273
  z53 := Tryz.sizeOf273
  v53 := Tryz.zeroValue273
  t171 := Tryz.underlying272
  a171 := Tryz.isAgg272
  z171 := Tryz.sizeOf272
  v171 := Tryz.zeroValue272
  t173 := Tryz.underlying276
  a173 := Tryz.isAgg276
  z173 := Tryz.sizeOf276
  v173 := Tryz.zeroValue276
  t212 := Tryz.underlying279
  a212 := Tryz.isAgg279
  z212 := Tryz.sizeOf279
  v212 := Tryz.zeroValue279
  t213 := Tryz.underlying280
  a213 := Tryz.isAgg280
  z213 := Tryz.sizeOf280
  t232 := Tryz.underlying283
  a232 := Tryz.isAgg283
  z232 := Tryz.sizeOf283
  v232 := Tryz.zeroValue283
  t233 := Tryz.underlying284
  a233 := Tryz.isAgg284
  z233 := Tryz.sizeOf284
  v233 := Tryz.zeroValue284
  g17 := by kernel_rfl
  g18 := by kernel_rfl
  g19 := by kernel_rfl }
open Go.RowKit Go.Sort Go.Lib in
theorem Tryz.strconv_Itoa_small (i : Nat) (hi : i < 100) (w : World) :
    Calls Tryz.prog 175 #[.int .i64 i] w fun e w' => e = .returned (.string ⟨(Lib.decDigits i).toArray⟩) ∧ w' = w := Any.strconv_Itoa_small Tryz.lays171 i hi w
def Tryz.laysM316_ren : Go.Shelf.Ren := ⟨fun | 316 => 172 | n => n, fun | 9 => 9 | 3 => 3 | 4 => 4 | 37 => 217 | 0 => 0 | 127 => 252 | 5 => 5 | n => n, fun | n => n⟩
theorem Tryz.laysM316 : Go.Proofs.LaysM.n316 Tryz.prog Tryz.laysM316_ren := {
  mixed := by kernel_rfl
  f316 := Tryz.func172.trans (congrArg some (by kernel_rfl))
  t0 := Tryz.underlying0
  a0 := Tryz.isAgg0
  z0 := Tryz.sizeOf0
  v0 := Tryz.zeroValue0
  t3 := Tryz.underlying3
  a3 := Tryz.isAgg3
  z3 := Tryz.sizeOf3
  v3 := Tryz.zeroValue3
  t4 := Tryz.underlying4
  a4 := Tryz.isAgg4
  z4 := Tryz.sizeOf4
  v4 := Tryz.zeroValue4
  t9 := Tryz.underlying9
  a9 := Tryz.isAgg9
  z9 := Tryz.sizeOf9
  v9 := Tryz.zeroValue9
  t37 := Tryz.underlying217
  a37 := Tryz.isAgg217
  z37 := Tryz.sizeOf217
  v37 := Tryz.zeroValue217
  t127 := Tryz.underlying252
  a127 := Tryz.isAgg252
  z127 := Tryz.sizeOf252
  v127 := Tryz.zeroValue252
  t5 := Tryz.underlying5
  a5 := Tryz.isAgg5
  z5 := Tryz.sizeOf5
  v5 := Tryz.zeroValue5
  i0 := by kernel_rfl
  i3 := by kernel_rfl
  i4 := by kernel_rfl
  i5 := by kernel_rfl
  i9 := by kernel_rfl
  i37 := by kernel_rfl
  i127 := by kernel_rfl }
open Go.RowKit in
theorem Tryz.stringslite_Clone (s : ByteArray) (w : World) (hlim : s.size ≤ 281474976710656) :
    Calls Tryz.prog 172 #[.string s] w fun e w' => e = .returned (.string s) ∧ Below w.heap.size w w' := Any.stringslite_Clone Tryz.laysM316 s w hlim
def Tryz.lays260_ren : Go.Shelf.Ren := ⟨fun | 260 => 200 | n => n, fun | 9 => 9 | 21 => 21 | 3 => 3 | 4 => 4 | 5 => 5 | 119 => 268 | 0 => 0 | 46 => 266 | 139 => 271 | 138 => 270 | n => n, fun | 3 => 1 | 4 => 2 | n => n⟩
theorem Tryz.lays260 : Go.Proofs.Lays.n260 Tryz.prog Tryz.lays260_ren := {
  mixed := by kernel_rfl
  f260 := Tryz.func200.trans (congrArg some (by kernel_rfl))
  t0 := Tryz.underlying0
  a0 := Tryz.isAgg0
  z0 := Tryz.sizeOf0
  v0 := Tryz.zeroValue0
  t3 := Tryz.underlying3
  a3 := Tryz.isAgg3
  z3 := Tryz.sizeOf3
  v3 := Tryz.zeroValue3
  t4 := Tryz.underlying4
  a4 := Tryz.isAgg4
  z4 := Tryz.sizeOf4
  v4 := Tryz.zeroValue4
  t5 := Tryz.underlying5
  a5 := Tryz.isAgg5
  z5 := Tryz.sizeOf5
  v5 := Tryz.zeroValue5
  t9 := Tryz.underlying9
  a9 := Tryz.isAgg9
  z9 := Tryz.sizeOf9
  v9 := Tryz.zeroValue9
  t21 := Tryz.underlying21
  a21 := Tryz.isAgg21
  z21 := Tryz.sizeOf21
  v21 := Tryz.zeroValue21
  t46 := Tryz.underlying266
  a46 := Tryz.isAgg266
  z46 := Tryz.sizeOf266
  v46 := Tryz.zeroValue266
  t119 := Tryz.underlying268
  a119 := Tryz.isAgg268
  z119 := Tryz.sizeOf268
  t138 := Tryz.underlying270
  a138 := Tryz.isAgg270
  z138 := Tryz.sizeOf270
  v138 := Tryz.zeroValue270
  t139 := Tryz.underlying271
  a139 := Tryz.isAgg271
  z139 := Tryz.sizeOf271
  v139 := Tryz.zeroValue271
  g3 := by kernel_rfl
  g4 := by kernel_rfl }
def Tryz.lays197_ren : Go.Shelf.Ren := ⟨fun | 197 => 191 | 260 => 200 | n => n, fun | 9 => 9 | 21 => 21 | 3 => 3 | 4 => 4 | 5 => 5 | 105 => 261 | 119 => 268 | 0 => 0 | 46 => 266 | 139 => 271 | 138 => 270 | n => n, fun | 3 => 1 | 4 => 2 | n => n⟩
theorem Tryz.lays197 : Go.Proofs.Lays.n197 Tryz.prog Tryz.lays197_ren := {
  mixed := by kernel_rfl
  f197 := Tryz.func191.trans (congrArg some (by kernel_rfl))
  f260 := Tryz.func200.trans (congrArg some (by kernel_rfl))
  t0 := Tryz.underlying0
  a0 := Tryz.isAgg0
  z0 := Tryz.sizeOf0
  v0 := Tryz.zeroValue0
  t3 := Tryz.underlying3
  a3 := Tryz.isAgg3
  z3 := Tryz.sizeOf3
  v3 := Tryz.zeroValue3
  t4 := Tryz.underlying4
  a4 := Tryz.isAgg4
  z4 := Tryz.sizeOf4
  v4 := Tryz.zeroValue4
  t5 := Tryz.underlying5
  a5 := Tryz.isAgg5
  z5 := Tryz.sizeOf5
  v5 := Tryz.zeroValue5
  t9 := Tryz.underlying9
  a9 := Tryz.isAgg9
  z9 := Tryz.sizeOf9
  v9 := Tryz.zeroValue9
  t21 := Tryz.underlying21
  a21 := Tryz.isAgg21
  z21 := Tryz.sizeOf21
  v21 := Tryz.zeroValue21
  t46 := Tryz.underlying266
  a46 := Tryz.isAgg266
  z46 := Tryz.sizeOf266
  v46 := Tryz.zeroValue266
  t105 := Tryz.underlying261
  a105 := Tryz.isAgg261
  z105 := Tryz.sizeOf261
  v105 := Tryz.zeroValue261
  t119 := Tryz.underlying268
  a119 := Tryz.isAgg268
  z119 := Tryz.sizeOf268
  t138 := Tryz.underlying270
  a138 := Tryz.isAgg270
  z138 := Tryz.sizeOf270
  v138 := Tryz.zeroValue270
  t139 := Tryz.underlying271
  a139 := Tryz.isAgg271
  z139 := Tryz.sizeOf271
  v139 := Tryz.zeroValue271
  g3 := by kernel_rfl
  g4 := by kernel_rfl }
open Go.RowKit Go.Lib in
theorem Tryz.utf8_DecodeRuneInString (s : ByteArray) (w : World) (hT : Lib.Utf8Tabs 1 2 w) :
    Calls Tryz.prog 191 #[.string s] w fun e w' => e = .returned (.tuple #[.int .i32 (Lib.decodeGo s).1, .int .i64 (Lib.decodeGo s).2]) ∧ Below w.heap.size w w' := Any.utf8_DecodeRuneInString Tryz.lays197 s w hT
def Tryz.lays108_ren : Go.Shelf.Ren := ⟨fun | 108 => 155 | n => n, fun | 28 => 24 | 3 => 3 | 0 => 0 | 4 => 4 | n => n, fun | n => n⟩
theorem Tryz.lays108 : Go.Proofs.Lays.n108 Tryz.prog Tryz.lays108_ren := {
  mixed := by kernel_rfl
  f108 := Tryz.func155.trans (congrArg some (by kernel_rfl))
  t0 := Tryz.underlying0
  a0 := Tryz.isAgg0
  z0 := Tryz.sizeOf0
  v0 := Tryz.zeroValue0
  t3 := Tryz.underlying3
  a3 := Tryz.isAgg3
  z3 := Tryz.sizeOf3
  v3 := Tryz.zeroValue3
  t4 := Tryz.underlying4
  a4 := Tryz.isAgg4
  z4 := Tryz.sizeOf4
  v4 := Tryz.zeroValue4
  t28 := Tryz.underlying24
  a28 := Tryz.isAgg24
  z28 := Tryz.sizeOf24
  v28 := Tryz.zeroValue24 }
open Go.Lib in
theorem Tryz.slices_Index_int (b off n c : Nat) (zs : List Int) (x : Int) (w : World) (hz : n ≤ zs.length) (hbig : n ≤ 9223372036854775807) (hc : ∀ j, j < zs.length → w.cell? ⟨b, off + j, none⟩ = some (.int .i64 (zs.getD j 0))) :
    Calls Tryz.prog 155 #[.slice (some ⟨b, off, none⟩) n c, .int .i64 x] w fun e w' => e = .returned (.int .i64 (Lib.idxOf (zs.take n) x)) ∧ w' = w := Any.slices_Index_int Tryz.lays108 b off n c zs x w hz hbig hc
def Tryz.lays107_ren : Go.Shelf.Ren := ⟨fun | 107 => 179 | 108 => 155 | n => n, fun | 28 => 24 | 3 => 3 | 4 => 4 | 0 => 0 | n => n, fun | n => n⟩
theorem Tryz.lays107 : Go.Proofs.Lays.n107 Tryz.prog Tryz.lays107_ren := {
  mixed := by kernel_rfl
  f107 := Tryz.func179.trans (congrArg some (by kernel_rfl))
  f108 := Tryz.func155.trans (congrArg some (by kernel_rfl))
  t0 := Tryz.underlying0
  a0 := Tryz.isAgg0
  z0 := Tryz.sizeOf0
  v0 := Tryz.zeroValue0
  t3 := Tryz.underlying3
  a3 := Tryz.isAgg3
  z3 := Tryz.sizeOf3
  v3 := Tryz.zeroValue3
  t4 := Tryz.underlying4
  a4 := Tryz.isAgg4
  z4 := Tryz.sizeOf4
  v4 := Tryz.zeroValue4
  t28 := Tryz.underlying24
  a28 := Tryz.isAgg24
  z28 := Tryz.sizeOf24
  v28 := Tryz.zeroValue24 }
open Go.Lib in
theorem Tryz.slices_Contains_int (b off n c : Nat) (zs : List Int) (x : Int) (w : World) (hz : n ≤ zs.length) (hbig : n ≤ 9223372036854775807) (hc : ∀ j, j < zs.length → w.cell? ⟨b, off + j, none⟩ = some (.int .i64 (zs.getD j 0))) :
    Calls Tryz.prog 179 #[.slice (some ⟨b, off, none⟩) n c, .int .i64 x] w fun e w' => e = .returned (.bool ((zs.take n).contains x)) ∧ w' = w := Any.slices_Contains_int Tryz.lays107 b off n c zs x w hz hbig hc
def Tryz.lays112_ren : Go.Shelf.Ren := ⟨fun | 112 => 181 | n => n, fun | 28 => 24 | 3 => 3 | 4 => 4 | 0 => 0 | n => n, fun | n => n⟩
theorem Tryz.lays112 : Go.Proofs.Lays.n112 Tryz.prog Tryz.lays112_ren := {
  mixed := by kernel_rfl
  f112 := Tryz.func181.trans (congrArg some (by kernel_rfl))
  t0 := Tryz.underlying0
  a0 := Tryz.isAgg0
  z0 := Tryz.sizeOf0
  v0 := Tryz.zeroValue0
  t3 := Tryz.underlying3
  a3 := Tryz.isAgg3
  z3 := Tryz.sizeOf3
  v3 := Tryz.zeroValue3
  t4 := Tryz.underlying4
  a4 := Tryz.isAgg4
  z4 := Tryz.sizeOf4
  v4 := Tryz.zeroValue4
  t28 := Tryz.underlying24
  a28 := Tryz.isAgg24
  z28 := Tryz.sizeOf24
  v28 := Tryz.zeroValue24 }
def Tryz.laysNm223_ren : Go.Shelf.Ren := ⟨fun | 23 => 150 | n => n, fun | 22 => 24 | 3 => 3 | 4 => 4 | 0 => 0 | n => n, fun | n => n⟩
theorem Tryz.laysNm223 : Go.Proofs.Lays2.n23 Tryz.prog Tryz.laysNm223_ren := {
  mixed := by kernel_rfl
  f23 := Tryz.func150.trans (congrArg some (by kernel_rfl))
  t0 := Tryz.underlying0
  a0 := Tryz.isAgg0
  z0 := Tryz.sizeOf0
  v0 := Tryz.zeroValue0
  t3 := Tryz.underlying3
  a3 := Tryz.isAgg3
  z3 := Tryz.sizeOf3
  v3 := Tryz.zeroValue3
  t4 := Tryz.underlying4
  a4 := Tryz.isAgg4
  z4 := Tryz.sizeOf4
  v4 := Tryz.zeroValue4
  t22 := Tryz.underlying24
  a22 := Tryz.isAgg24
  z22 := Tryz.sizeOf24
  v22 := Tryz.zeroValue24
  i3 := by kernel_rfl }
open Go.RowKit Go.Lib Go.Sort in
theorem Tryz.slices_Reverse_int_cells (b off n c : Nat) (zs : List Int) (w : World) (hz : n ≤ zs.length) (hbig : n ≤ 9223372036854775807) (hc : ∀ j, j < zs.length → w.cell? ⟨b, off + j, none⟩ = some (.int .i64 (zs.getD j 0))) (hf : ∀ j, j < n → w.frozen? ⟨b, off + j, none⟩ = false) :
    Calls Tryz.prog 181 #[.slice (some ⟨b, off, none⟩) n c] w fun e w' => e = .returned (.tuple #[]) ∧ ∃ q, w' = (w.drewN q).setCells b off ((zs.take n).reverse.map (Value.int .i64)) := Any.slices_Reverse_int_cells Tryz.lays112 b off n c zs w hz hbig hc hf
open Go.RowKit Go.Lib Go.Sort in
theorem Tryz.slices_Delete_int_cells (b off n c i j : Nat) (zs : List Int) (w : World) (hz : n ≤ zs.length) (hcap : n ≤ c) (hm : c ≤ 9223372036854775807) (hij : i ≤ j) (hj : j ≤ n) (hc : ∀ j, j < zs.length → w.cell? ⟨b, off + j, none⟩ = some (.int .i64 (zs.getD j 0))) (hf : ∀ j, j < n → w.frozen? ⟨b, off + j, none⟩ = false) :
    Calls Tryz.prog 150 #[.slice (some ⟨b, off, none⟩) n c, .int .i64 i, .int .i64 j] w fun e w' => e = .returned (.slice (some ⟨b, off, none⟩) (n - (j - i)) c) ∧ ∃ q, w' = (w.drewN q).setCells b off (((zs.take n).take i ++ (zs.take n).drop j ++ List.replicate (j - i) 0).map (Value.int .i64)) := Any.slices_Delete_int_cells Tryz.laysNm223 b off n c i j zs w hz hcap hm hij hj hc hf
end Go.Proofs

namespace Go.Proofs.YtabogkonklplcaaGreatDoor
open Go.RowKit Go.Lib
set_option linter.unusedSimpArgs false
set_option linter.unusedVariables false
abbrev Tabs (w : World) : Prop := Lib.Utf8Tabs 1 2 w
theorem Tabs.below {w w' : World} (h : Tabs w) (hb : Below w.heap.size w w') : Tabs w' := by
  have key : ∀ (p : Addr) (v : Value), w.cell? p = some v → w'.cell? p = some v := fun p v hv => by rw [hb.cell (World.block_lt_of_cell? w _ hv)]; exact hv
  exact ⟨fun c hc => key _ _ (h.1 c hc), fun i hi => ⟨key _ _ (h.2 i hi).1, key _ _ (h.2 i hi).2⟩⟩
set_option maxHeartbeats 400000 in
theorem broken_any (c : Int) (u : ByteArray) (w : World) (hT : Tabs w) :
    Calls Tryz.prog 171 #[.int .i32 c, .string u] w fun e w' => e = .returned (.bool (decide (c = 65533) && decide ((Lib.decodeGo u).2 = 1))) ∧ Below w.heap.size w w' := by
  have C := hid (Tryz.utf8_DecodeRuneInString u w hT)
  obtain ⟨R, hR⟩ : ∃ R, (Lib.decodeGo u).1 = R := ⟨_, rfl⟩
  obtain ⟨K, hK⟩ : ∃ K, (Lib.decodeGo u).2 = K := ⟨_, rfl⟩
  rw [hR, hK] at C
  rw [hK]
  clear hT hR hK
  by_cases hc : c = 65533
  · subst hc
    go_enter Tryz.func171, Tryz.ntmps171
    go_wp2_with (go_at_call 191; refine C.out.mono ?_; rintro e w3 ⟨rfl, hb⟩)
    go_ret
    refine ⟨?_, hb⟩
    congr 2
    by_cases h1 : K = 1
    · subst h1; rfl
    · have : ¬ (K : Int) = 1 := by omega
      simp [h1, this]
  · have hc1 : (c != 65533) = true := by simpa using hc
    go_enter Tryz.func171, Tryz.ntmps171
    go_wp2
    go_ret
    exact ⟨by simp [hc], Below.refl _ _⟩
end Go.Proofs.YtabogkonklplcaaGreatDoor

namespace Go.Proofs.YtabogkonklplcaaGreatDoor
open Go.RowKit
set_option linter.unusedSimpArgs false
set_option linter.unusedVariables false
def errV (a y : Int) : Value := if y = 0 then .nilIface else .iface 32 (.agg #[.int .i64 a, .int .i64 y])
end Go.Proofs.YtabogkonklplcaaGreatDoor

namespace Go.Proofs.YtabogkonklplcaaGreatDoor
open Go.RowKit
set_option linter.unusedSimpArgs false
set_option linter.unusedVariables false
structure Stp (O O' : Nat → Prop) (w w' : World) : Prop where
  keeps : Keeps O w w'
  gains : ∀ k, O' k → O k ∨ w.heap.size ≤ k
  there : ∀ k, O' k → k < w'.heap.size
theorem Stp.refl {O : Nat → Prop} {w : World} (h : ∀ k, O k → k < w.heap.size) : Stp O O w w := ⟨Keeps.refl _ _, fun k h => .inl h, h⟩
theorem Stp.trans {O1 O2 O3 : Nat → Prop} {a b c : World} (h : Stp O1 O2 a b) (k : Stp O2 O3 b c) : Stp O1 O3 a c where
  keeps := h.keeps.trans (k.keeps.mono (fun i _ e => h.gains i e))
  gains := fun i e => (k.gains i e).elim (h.gains i) (fun e => .inr (Nat.le_trans h.keeps.size e))
  there := k.there
def Mine (B : Nat) (I : List Nat → (Nat → Prop) → World → Prop) : Prop := ∀ pre O w w', I pre O w → Keeps (fun k => ¬ O k ∧ B ≤ k) w w' → I pre O w'
theorem Mine.later {B B' : Nat} {I : List Nat → (Nat → Prop) → World → Prop} (h : Mine B I) (hB : B ≤ B') : Mine B' I :=
  fun pre O w w' hi hk => h pre O w w' hi (hk.mono (fun k _ e => ⟨e.1, Nat.le_trans hB e.2⟩))
def encN (x : Nat) : Array Value := #[.int .i64 (x : Int)]
def YieldOk (P : Program) (l : Nat) (xs : List Nat) (J Jx : List Nat → (Nat → Prop) → World → Prop) : Prop :=
  ∀ (n : Nat) pre x O w, J pre O w → pre ++ [x] <+: xs → (∀ k, O k → k < w.heap.size) → YieldAt Fence.wide n P l (encN x) w fun e w' => ∃ O', Stp O O' w w' ∧
    ((e = .returned (.bool true) ∧ J (pre ++ [x]) O' w') ∨ (e = .returned (.bool false) ∧ Jx (pre ++ [x]) O' w'))
def SeqOk (P : Program) (gf : Nat) (lb : Array Value) (xs : List Nat) (w : World) (O : Nat → Prop) : Prop :=
  ∀ (l : Nat) (J Jx : List Nat → (Nat → Prop) → World → Prop) (O1 : Nat → Prop) (w1 : World), Below w.heap.size w w1 → (∀ k, O1 k → O k ∨ w.heap.size ≤ k) → (∀ k, O1 k → k < w1.heap.size) → Mine w1.heap.size J → Mine w1.heap.size Jx → YieldOk P l xs J Jx → J [] O1 w1 →
    Calls P gf (#[.func (.yield l) #[] #[]] ++ lb) w1 fun e w' => (∃ v, e = .returned v) ∧ ∃ O', Stp O1 O' w1 w' ∧ (J xs O' w' ∨ ∃ pre, pre <+: xs ∧ Jx pre O' w')
def minePost (I Ix : List Nat → (Nat → Prop) → World → Prop) (O : Nat → Prop) (xs : List Nat) (W : World) : Exit → Act → World → Prop
  | .normal, _, W' => ∃ O', Stp O O' W W' ∧ I xs O' W'
  | .ret, _, W' => ∃ O', Stp O O' W W' ∧ Ix xs O' W'
  | .exit _, _, _ => False
  | .goto _, _, _ => False
  | .panic _, _, _ => False
  | .outgrown, _, _ => False
def anyPost (I : List Nat → (Nat → Prop) → World → Prop) (Ix : Code → List Nat → (Nat → Prop) → World → Prop) (O : Nat → Prop) (xs : List Nat) (W : World) : Exit → Act → World → Prop
  | .normal, _, W' => ∃ O', Stp O O' W W' ∧ I xs O' W'
  | .ret, _, W' => ∃ O', Stp O O' W W' ∧ Ix .ret xs O' W'
  | .exit id, _, W' => ∃ O', Stp O O' W W' ∧ Ix (.exit id) xs O' W'
  | .goto _, _, _ => False
  | .panic _, _, _ => False
  | .outgrown, _, _ => False
theorem keeps_putObj {F : Nat → Prop} {a w : World} (h : Keeps F a w) {l : Nat} (hl : F l ∨ a.heap.size ≤ l) (o : Obj) : Keeps F a (w.putObj l o) :=
  h.trans ⟨rfl, rfl, rfl, by simp, fun k hk hF => World.putObj_heap_other (fun e => hF (e ▸ hl))⟩
set_option maxHeartbeats 1000000 in
theorem range_any {P : Program} {n : Nat} {g : Operand} {ps : Array Tmp} {assign body : Code} {Q : Exit → Act → World → Prop} {a : Act} {w : World} {gf : Nat} {lb : Array Value}
    (hg : a.eval g = .func (.func gf) #[] lb) (eg : ∀ args w, (callFunc gf args).run P w = .ok (.enter gf args) w) (hps : ps.size = 1)
    {xs : List Nat} {O : Nat → Prop} (hO : ∀ k, O k → k < w.heap.size) (hseq : SeqOk P gf lb xs w O)
    (I : List Nat → (Nat → Prop) → World → Prop) (Ix : Code → List Nat → (Nat → Prop) → World → Prop) (mI : Mine w.heap.size I) (mIx : ∀ c, Mine w.heap.size (Ix c)) (h0 : I [] O w) (a₁ : Nat → Act)
    (hassign : ∀ (m l x : Nat) (W : World) (K : Act → World → Prop), K (a₁ x) W → assign.wpIn (Fence.wide.inRound l) m P (Exit.then K (fun _ _ _ => False)) { tmps := (ps.zip (encN x)).foldl (fun t (p, v) => t.setIfInBounds p v) a.tmps, defers := [] } W)
    (hbody : ∀ (m l : Nat) pre x O W, pre ++ [x] <+: xs → (∀ k, O k → k < W.heap.size) → I pre O W → body.wpIn (Fence.wide.inRound l) m P (anyPost I Ix O (pre ++ [x]) W) (a₁ x) W)
    (hdone : ∀ O' W, Stp O O' w W → ¬ O' w.heap.size → I xs O' W → W.heap[w.heap.size]? = some (.deferred (some [])) → Q .normal { a with defers := { target := .collected w.heap.size, args := #[] } :: a.defers } W)
    (hstop : ∀ (c : Code) O' pre W, pre <+: xs → Stp O O' w W → ¬ O' w.heap.size → Ix c pre O' W → W.heap[w.heap.size]? = some (.deferred (some [])) → c.wpIn Fence.wide n P Q { a with defers := { target := .collected w.heap.size, args := #[] } :: a.defers } W) :
    (Code.rangeFunc g ps assign body).wpIn Fence.wide n P Q a w := by
  refine wpIn_rangeFunc ?_
  intro fn hfn
  obtain ⟨rec, hrec⟩ : ∃ rec : LoopState → Option Code → Loop, rec = fun st pe => { state := st, pending := pe, fn, tmps := a.tmps, params := ps, assign, body, defers := w.heap.size } := ⟨_, rfl⟩
  obtain ⟨l, hl⟩ : ∃ l, l = w.heap.size + 1 := ⟨_, rfl⟩
  obtain ⟨W1, hW1⟩ : ∃ W1, (w.alloc (.deferred (some []))).alloc (.loop (rec .ready none)) = W1 := ⟨_, rfl⟩
  have hs1 : W1.heap.size = w.heap.size + 2 := by rw [← hW1]; simp
  have hL1 : W1.heap[l]? = some (.loop (rec .ready none)) := by
    rw [← hW1, hl]; have := World.alloc_heap_new (w.alloc (.deferred (some []))) (.loop (rec .ready none)); rwa [World.size_alloc] at this
  have hK1 : W1.heap[w.heap.size]? = some (.deferred (some [])) := by
    rw [← hW1]; exact (Below.heap_alloc _ _ _ (by simp)).trans (World.alloc_heap_new w _)
  have hb1 : Below w.heap.size w W1 := by rw [← hW1]; exact ((Below.refl _ w).alloc (Nat.le_refl _) _).alloc (by simp) _
  have hOl : ¬ O l := fun e => by have := hO l e; omega
  refine ⟨l, [{ target := .collected w.heap.size, args := #[] }], W1, { target := .fn (.func gf) lb, args := #[.func (.yield l) #[] #[]] }, W1, gf, #[.func (.yield l) #[] #[]] ++ lb, W1, ?_, ?_, fun _ _ => trivial, ?_, ?_, ?_⟩
  · rw [← hW1, hrec, hl]; exact run_enterLoop_outer _ _ _ _ _
  · simp only [resolve, hg]
    simp [go_sem]
  · simp [invoke, go_sem, eg]
  · intro h; simp [Fence.wide] at h
  have hI1 : I [] O W1 := mI [] O w W1 h0 (Keeps.of_below hb1)
  obtain ⟨J, hJ⟩ : ∃ J : List Nat → (Nat → Prop) → World → Prop, J = fun pre O' W => ∃ O2 : Nat → Prop, (O' = fun k => O2 k ∨ k = l) ∧ ¬ O2 l ∧ I pre O2 W ∧ W.heap[l]? = some (.loop (rec .ready none)) := ⟨_, rfl⟩
  obtain ⟨Jx, hJx⟩ : ∃ J : List Nat → (Nat → Prop) → World → Prop, J = fun pre O' W => ∃ (c : Code) (O2 : Nat → Prop), (O' = fun k => O2 k ∨ k = l) ∧ ¬ O2 l ∧ Ix c pre O2 W ∧ W.heap[l]? = some (.loop (rec .done (some c))) := ⟨_, rfl⟩
  have mJ : Mine W1.heap.size J := by
    rintro pre O' X Y hj hk
    rw [hJ] at hj ⊢
    obtain ⟨O2, rfl, h1, h2, h3⟩ := hj
    exact ⟨O2, rfl, h1, mI pre O2 X Y h2 (hk.mono (fun k _ e => ⟨fun h => e.1 (.inl h), by omega⟩)), (hk.block l (heap_lt h3) (fun e => e.1 (.inr rfl))).trans h3⟩
  have mJx : Mine W1.heap.size Jx := by
    rintro pre O' X Y hj hk
    rw [hJx] at hj ⊢
    obtain ⟨c, O2, rfl, h1, h2, h3⟩ := hj
    exact ⟨c, O2, rfl, h1, mIx c pre O2 X Y h2 (hk.mono (fun k _ e => ⟨fun h => e.1 (.inl h), by omega⟩)), (hk.block l (heap_lt h3) (fun e => e.1 (.inr rfl))).trans h3⟩
  have hY : YieldOk P l xs J Jx := by
    intro m pre x O' W hj hpre hO'
    rw [hJ] at hj
    obtain ⟨O2, rfl, h1, h2, h3⟩ := hj
    have hlt := heap_lt h3
    have hy := run_yield (P := P) (args := encN x) h3 (by rw [hrec]; exact hps.symm)
    rw [hrec] at hy
    refine ⟨fn, _, assign, body, hy, roundIn_of_wpIn trivial (hassign m l x W _ ?_)⟩
    clear hy
    refine ⟨_, run_beginRound h3 (by rw [hrec]), ?_⟩
    obtain ⟨Wb, hWb⟩ : ∃ Wb, W.putObj l (.loop { rec .ready none with state := .busy }) = Wb := ⟨_, rfl⟩
    rw [hWb]
    have hszb : Wb.heap.size = W.heap.size := by rw [← hWb]; simp
    have hlb : Wb.heap[l]? = some (.loop { rec .ready none with state := .busy }) := by rw [← hWb]; exact World.putObj_heap_same hlt
    have hIb : I pre O2 Wb := mI pre O2 W Wb h2 (by rw [← hWb]; exact keeps_putObj (Keeps.refl _ _) (.inl ⟨h1, by omega⟩) _)
    have hkb : Keeps (fun k => O2 k ∨ k = l) W Wb := by rw [← hWb]; exact keeps_putObj (Keeps.refl _ _) (.inl (.inr rfl)) _
    have fin : ∀ (jump : Option Code) (O3 : Nat → Prop) (W3 : World), Stp O2 O3 Wb W3 →
        (Instr.endRound l jump).run P W3 = .ok (.bool jump.isNone) (W3.putObj l (.loop (rec (if jump.isNone then .ready else .done) jump))) ∧ ¬ O3 l ∧ l < W3.heap.size ∧
        (W3.putObj l (.loop (rec (if jump.isNone then .ready else .done) jump))).heap[l]? = some (.loop (rec (if jump.isNone then .ready else .done) jump)) ∧
        Stp (fun k => O2 k ∨ k = l) (fun k => O3 k ∨ k = l) W (W3.putObj l (.loop (rec (if jump.isNone then .ready else .done) jump))) := by
      intro jump O3 W3 hs
      have hl3 := (hs.keeps.block l (by omega) h1).trans hlb
      have hn3 : ¬ O3 l := fun e => (hs.gains l e).elim h1 (fun e => by omega)
      have he := run_endRound (P := P) jump hl3
      rw [hrec] at he ⊢
      refine ⟨he, hn3, heap_lt hl3, World.putObj_heap_same (heap_lt hl3), ?_, ?_, ?_⟩
      · exact keeps_putObj (hkb.trans (hs.keeps.mono (fun k _ e => .inl (.inl e)))) (.inl (.inr rfl)) _
      · rintro k (e | e)
        · rcases hs.gains k e with e | e
          · exact .inl (.inl e)
          · exact .inr (by omega)
        · exact .inl (.inr e)
      · rintro k (e | e)
        · have := hs.there k e
          simpa using this
        · have := heap_lt hl3
          simp; omega
    refine wpIn_mono (hbody m l pre x O2 Wb hpre (fun k hk => by rw [hszb]; exact hO' k (.inl hk)) hIb) ?_
    rintro e a3 W3 hp
    cases e with
    | normal =>
      obtain ⟨O3, hs, hi⟩ := hp
      obtain ⟨hr, hn3, hlt3, hl4, hs4⟩ := fin none O3 W3 hs
      refine ⟨_, _, hr, _, hs4, .inl ⟨rfl, ?_⟩⟩
      rw [hJ]
      exact ⟨O3, rfl, hn3, mI _ O3 W3 _ hi (keeps_putObj (Keeps.refl _ _) (.inl ⟨hn3, by omega⟩) _), hl4⟩
    | ret =>
      obtain ⟨O3, hs, hi⟩ := hp
      obtain ⟨hr, hn3, hlt3, hl4, hs4⟩ := fin (some .ret) O3 W3 hs
      refine ⟨_, _, hr, _, hs4, .inr ⟨rfl, ?_⟩⟩
      rw [hJx]
      exact ⟨.ret, O3, rfl, hn3, mIx _ _ O3 W3 _ hi (keeps_putObj (Keeps.refl _ _) (.inl ⟨hn3, by omega⟩) _), hl4⟩
    | exit id =>
      obtain ⟨O3, hs, hi⟩ := hp
      obtain ⟨hr, hn3, hlt3, hl4, hs4⟩ := fin (some (.exit id)) O3 W3 hs
      refine ⟨_, _, hr, _, hs4, .inr ⟨rfl, ?_⟩⟩
      rw [hJx]
      exact ⟨.exit id, O3, rfl, hn3, mIx _ _ O3 W3 _ hi (keeps_putObj (Keeps.refl _ _) (.inl ⟨hn3, by omega⟩) _), hl4⟩
    | goto t => exact hp.elim
    | panic ch => exact hp.elim
    | outgrown => exact hp.elim
  refine (callsIn_wide.2 (hseq l J Jx (fun k => O k ∨ k = l) W1 hb1 ?_ ?_ mJ mJx hY ?_)).mono ?_
  · rintro k (e | e)
    · exact .inl e
    · exact .inr (by omega)
  · rintro k (e | e)
    · have := hO k e; omega
    · omega
  · rw [hJ]; exact ⟨O, rfl, hOl, hI1, hL1⟩
  · rintro e W2 ⟨⟨v, rfl⟩, O', hs, hh⟩
    have hD : W2.heap[w.heap.size]? = some (.deferred (some [])) := (hs.keeps.block _ (by omega) (fun e => e.elim (fun e => by have := hO _ e; omega) (fun e => by omega))).trans hK1
    have hk2 : Keeps O w W2 := (Keeps.of_below hb1).trans (hs.keeps.mono (fun k _ e => e.elim .inl (fun e => .inr (by omega))))
    have step : ∀ (O2 : Nat → Prop) (o : Obj), (O' = fun k => O2 k ∨ k = l) → Stp O O2 w (W2.putObj l o) := by
      rintro O2 o rfl
      refine ⟨keeps_putObj hk2 (.inr (by omega)) _, fun k e => ?_, fun k e => ?_⟩
      · rcases hs.gains k (.inl e) with (e | e) | e
        · exact .inl e
        · exact .inr (by omega)
        · exact .inr (by omega)
      · have := hs.there k (.inl e)
        simpa using this
    have nd : ∀ (O2 : Nat → Prop), (O' = fun k => O2 k ∨ k = l) → ¬ O2 w.heap.size := by
      rintro O2 rfl e
      rcases hs.gains _ (.inl e) with (e | e) | e
      · have := hO _ e; omega
      · omega
      · omega
    rcases hh with hj | ⟨pre, hpre, hj⟩
    · rw [hJ] at hj
      obtain ⟨O2, he, h1, h2, h3⟩ := hj
      refine ⟨none, _, by have := run_endLoop (P := P) h3 (by rw [hrec]; simp); rw [hrec] at this; exact this, hdone O2 _ (step O2 _ he) (nd O2 he) (mI _ O2 W2 _ h2 (keeps_putObj (Keeps.refl _ _) (.inl ⟨h1, by omega⟩) _)) ((World.putObj_heap_other (by omega)).trans hD)⟩
    · rw [hJx] at hj
      obtain ⟨c, O2, he, h1, h2, h3⟩ := hj
      refine ⟨some c, _, by have := run_endLoop (P := P) h3 (by rw [hrec]; simp); rw [hrec] at this; exact this, hstop c O2 pre _ hpre (step O2 _ he) (nd O2 he) (mIx _ _ O2 W2 _ h2 (keeps_putObj (Keeps.refl _ _) (.inl ⟨h1, by omega⟩) _)) ((World.putObj_heap_other (by omega)).trans hD)⟩
theorem range_mine {P : Program} {n : Nat} {g : Operand} {ps : Array Tmp} {assign body : Code} {Q : Exit → Act → World → Prop} {a : Act} {w : World} {gf : Nat} {lb : Array Value}
    (hg : a.eval g = .func (.func gf) #[] lb) (eg : ∀ args w, (callFunc gf args).run P w = .ok (.enter gf args) w) (hps : ps.size = 1)
    {xs : List Nat} {O : Nat → Prop} (hO : ∀ k, O k → k < w.heap.size) (hseq : SeqOk P gf lb xs w O)
    (I Ix : List Nat → (Nat → Prop) → World → Prop) (mI : Mine w.heap.size I) (mIx : Mine w.heap.size Ix) (h0 : I [] O w) (a₁ : Nat → Act)
    (hassign : ∀ (m l x : Nat) (W : World) (K : Act → World → Prop), K (a₁ x) W → assign.wpIn (Fence.wide.inRound l) m P (Exit.then K (fun _ _ _ => False)) { tmps := (ps.zip (encN x)).foldl (fun t (p, v) => t.setIfInBounds p v) a.tmps, defers := [] } W)
    (hbody : ∀ (m l : Nat) pre x O W, pre ++ [x] <+: xs → (∀ k, O k → k < W.heap.size) → I pre O W → body.wpIn (Fence.wide.inRound l) m P (minePost I Ix O (pre ++ [x]) W) (a₁ x) W)
    (hdone : ∀ O' W, Stp O O' w W → ¬ O' w.heap.size → I xs O' W → W.heap[w.heap.size]? = some (.deferred (some [])) → Q .normal { a with defers := { target := .collected w.heap.size, args := #[] } :: a.defers } W)
    (hstop : ∀ O' pre W, pre <+: xs → Stp O O' w W → ¬ O' w.heap.size → Ix pre O' W → W.heap[w.heap.size]? = some (.deferred (some [])) → Code.ret.wpIn Fence.wide n P Q { a with defers := { target := .collected w.heap.size, args := #[] } :: a.defers } W) :
    (Code.rangeFunc g ps assign body).wpIn Fence.wide n P Q a w := by
  refine range_any hg eg hps hO hseq I (fun c pre O W => c = .ret ∧ Ix pre O W) mI (fun c pre O w w' h hk => ⟨h.1, mIx pre O w w' h.2 hk⟩) h0 a₁ hassign ?_ hdone ?_
  · intro m l pre x O W hpre hO hi
    refine wpIn_mono (hbody m l pre x O W hpre hO hi) ?_
    intro e a' W' hp
    cases e with
    | normal => exact hp
    | ret => obtain ⟨O', hs, hx⟩ := hp; exact ⟨O', hs, rfl, hx⟩
    | exit id => exact hp.elim
    | goto t => exact hp.elim
    | panic ch => exact hp.elim
    | outgrown => exact hp.elim
  · rintro c O' pre W hpre hs hn ⟨rfl, hx⟩ hD
    exact hstop O' pre W hpre hs hn hx hD
theorem stp_mine {O0 O : Nat → Prop} {B : Nat} {w0 W W' : World} (hB : w0.heap.size ≤ B) (h : Stp O0 O w0 W) (hk : Keeps (fun k => ¬ O k ∧ B ≤ k) W W') : Stp O0 O w0 W' :=
  ⟨h.keeps.trans (hk.mono (fun k _ e => .inr (by have := e.2; omega))), h.gains, fun k e => Nat.lt_of_lt_of_le (h.there k e) hk.size⟩
theorem Stp.alloc {O : Nat → Prop} {w : World} (h : ∀ k, O k → k < w.heap.size) (o : Obj) : Stp O O w (w.alloc o) := ⟨(Keeps.refl _ _).alloc _, fun k e => .inl e, fun k e => by have := h k e; simp; omega⟩
theorem Stp.drew {O O' : Nat → Prop} {w w' : World} (h : Stp O O' w w') : Stp O O' w w'.drew := ⟨h.keeps.drew, h.gains, h.there⟩
def mark (D : Nat) : Deferred := { target := .collected D, args := #[] }
theorem leaves_marks {n : Nat} {P : Program} {fn : Func} {tmps : Array Value} {R : Ending → World → Prop} : ∀ (ds : List Nat) (w : World), ds.Nodup → (∀ D ∈ ds, w.heap[D]? = some (.deferred (some []))) →
    (∀ w', Keeps (fun k => k ∈ ds) w w' → ∃ v, (results fn tmps).run P w' = .ok v w' ∧ R (.returned v) w') → LeavesInM Fence.wide n P fn tmps R (ds.map mark) .returning w
  | [], w, _, _, h => h w (Keeps.refl _ _)
  | D :: ds, w, hn, hd, h => by
    refine ⟨by simp, .inl ⟨D, _, rfl, run_takeDeferred (hd D (by simp)), ?_⟩⟩
    have hn' := List.nodup_cons.1 hn
    refine leaves_marks ds _ hn'.2 (fun D' h' => ?_) (fun w' hk => h w' ?_)
    · refine (World.putObj_heap_other ?_).trans (hd D' (by simp [h']))
      rintro rfl
      exact hn'.1 h'
    · exact (keeps_putObj (Keeps.refl _ _) (.inl (by simp)) _).trans (hk.mono (fun k _ e => .inl (by simp [e])))
theorem left_ok {O1 O' : Nat → Prop} {w1 wr w' : World} {ds : List Nat} (st : Stp O1 O' w1 wr) (hds : ∀ D ∈ ds, w1.heap.size ≤ D ∧ ¬ O' D) (hk : Keeps (fun k => k ∈ ds) wr w') :
    Stp O1 O' w1 w' ∧ Keeps (fun k => ¬ O' k ∧ w1.heap.size ≤ k) wr w' :=
  ⟨⟨st.keeps.trans (hk.mono (fun k _ e => .inr (hds k e).1)), st.gains, fun k e => Nat.lt_of_lt_of_le (st.there k e) hk.size⟩, hk.mono (fun k _ e => ⟨(hds k e).2, (hds k e).1⟩)⟩
end Go.Proofs.YtabogkonklplcaaGreatDoor

namespace Go.Proofs.YtabogkonklplcaaGreatDoor
open Go.RowKit
set_option linter.unusedSimpArgs false
set_option linter.unusedVariables false
section
variable {w : World} {F : Nat → Prop} {bd bn cap : Nat} {rn : List RN} {rv : Value} {s : List Nd} {rs : List Sp}
end
end Go.Proofs.YtabogkonklplcaaGreatDoor
