import Derived.Test.YtabogkonklplcaaGreatDoorC05
import Derived.Test.YtabogkonklplcaaGreatDoorC14

/- How package tree lays the state of a document in memory (PForAt), and how that changes. -/
namespace Go.Proofs.YtabogkonklplcaaGreatDoor
open Go.RowKit
set_option linter.unusedSimpArgs false
set_option linter.unusedVariables false

/-- One of tree's nodes as its cells hold it. -/
structure PN where
  p : Int
  t : Bool
  kv : Value
  ch : ByteArray
def PN.cells (r : PN) : List Value := [.int .i64 r.p, .bool r.t, r.kv, .string r.ch]

theorem pcells_get (rn : List PN) (i : Nat) (r : PN) (h : rn[i]? = some r) (j : Nat) (hj : j < 4) : (rn.flatMap PN.cells)[i * 4 + j]? = r.cells[j]? := by
  induction rn generalizing i with
  | nil => simp at h
  | cons a l ih =>
    cases i with
    | zero =>
      simp at h; subst h
      rw [List.flatMap_cons, Nat.zero_mul, Nat.zero_add, List.getElem?_append_left (by simpa [PN.cells] using hj)]
    | succ i =>
      have e : (i + 1) * 4 + j = (i * 4 + j) + 4 := by omega
      rw [e, List.flatMap_cons, List.getElem?_append_right (by simp [PN.cells])]
      simpa [PN.cells] using ih i (by simpa using h)

theorem pcells_set (rn : List PN) (i : Nat) (r r' : PN) (h : rn[i]? = some r) (j : Nat) (hj : j < 4) (u : Value) (he : r'.cells = r.cells.set j u) :
    (rn.flatMap PN.cells).set (i * 4 + j) u = (rn.set i r').flatMap PN.cells := by
  induction rn generalizing i with
  | nil => simp at h
  | cons a l ih =>
    cases i with
    | zero =>
      simp at h; subst h
      simp only [List.flatMap_cons, List.set_cons_zero, Nat.zero_mul, Nat.zero_add]
      rw [List.set_append_left _ _ (by simpa [PN.cells] using hj), ← he]
    | succ i =>
      have e : (i + 1) * 4 + j = (i * 4 + j) + 4 := by omega
      simp only [List.flatMap_cons, List.set_cons_succ]
      rw [e, List.set_append_right _ _ (by simp [PN.cells])]
      congr 1
      simpa [PN.cells] using ih i (by simpa using h)

/-- A list of characters as one text. -/
def catB (l : List ByteArray) : ByteArray := l.foldl (· ++ ·) ⟨#[]⟩

structure POk (w : World) (F : Nat → Prop) (bf bn : Nat) (r : PN) (x : Nd) : Prop where
  t : r.t = x.t
  p : r.p = x.p
  ch : r.ch = catB x.cs
  kids : w.ownsRow 0 3 1 r.kv x.ks.length (intsV x.ks)
  apart : ∀ b, r.kv.ownBlock = some b → F b ∧ b ≠ bf ∧ b ≠ bn

/-- A forest of package tree's in memory, all of it within F. No two nodes share a list of children. -/
structure PForAt (w : World) (F : Nat → Prop) (bf bn cap : Nat) (pn : List PN) (s : List Nd) : Prop where
  forest : w.heap[bf]? = some (.cells #[.slice (some ⟨bn, 0, none⟩) pn.length cap] 167 (0, 0))
  nodes : w.ownsRow 0 164 4 (.slice (some ⟨bn, 0, none⟩) pn.length cap) pn.length (pn.flatMap PN.cells)
  Ff : F bf
  Fn : F bn
  ne : bf ≠ bn
  len : pn.length = s.length
  ok : ∀ (i : Nat) (r : PN) (x : Nd), pn[i]? = some r → s[i]? = some x → POk w F bf bn r x
  sep : ∀ (i j : Nat) (r r' : PN), i ≠ j → pn[i]? = some r → pn[j]? = some r' → ∀ b, r.kv.ownBlock = some b → r'.kv.ownBlock ≠ some b

def PFor (w : World) (F : Nat → Prop) (bf : Nat) (s : List Nd) : Prop := ∃ bn cap pn, PForAt w F bf bn cap pn s

section
variable {w : World} {F : Nat → Prop} {bf bn cap : Nat} {pn : List PN} {s : List Nd}

theorem PForAt.nodesCell (h : PForAt w F bf bn cap pn s) : w.cell? ⟨bf, 0, none⟩ = some (.slice (some ⟨bn, 0, none⟩) s.length cap) := by
  rw [cell_of_heap h.forest, ← h.len]; rfl
theorem PForAt.lt (h : PForAt w F bf bn cap pn s) : bf < w.heap.size ∧ bn < w.heap.size := ⟨heap_lt h.forest, (h.nodes.lt bn rfl).2⟩

theorem PForAt.raw (h : PForAt w F bf bn cap pn s) {i : Nat} {x : Nd} (hx : s[i]? = some x) : ∃ r, pn[i]? = some r ∧ POk w F bf bn r x := by
  have hi : i < pn.length := by rw [h.len]; exact (List.getElem?_eq_some_iff.1 hx).1
  exact ⟨pn[i], List.getElem?_eq_getElem hi, h.ok i _ x (List.getElem?_eq_getElem hi) hx⟩

theorem PForAt.cellAt (h : PForAt w F bf bn cap pn s) {i : Nat} {r : PN} (hr : pn[i]? = some r) (j : Nat) (hj : j < 4) : w.cell? ⟨bn, i * 4 + j, none⟩ = r.cells[j]? := by
  have hi := (List.getElem?_eq_some_iff.1 hr).1
  rw [h.nodes.cellAt (i * 4 + j) (by omega), pcells_get pn i r hr j hj]

/-- What the walk reads of one node. -/
theorem PForAt.look (h : PForAt w F bf bn cap pn s) {i : Nat} {x : Nd} (hx : s[i]? = some x) : ∃ r, pn[i]? = some r ∧ POk w F bf bn r x ∧
    w.cell? ⟨bn, i * 4, none⟩ = some (.int .i64 x.p) ∧ w.cell? ⟨bn, i * 4 + 1, none⟩ = some (.bool x.t) ∧ w.cell? ⟨bn, i * 4 + 2, none⟩ = some r.kv ∧ w.cell? ⟨bn, i * 4 + 3, none⟩ = some (.string (catB x.cs)) := by
  obtain ⟨r, hr, ho⟩ := h.raw hx
  have h0 := h.cellAt hr 0 (by omega)
  have h1 := h.cellAt hr 1 (by omega)
  have h2 := h.cellAt hr 2 (by omega)
  have h3 := h.cellAt hr 3 (by omega)
  refine ⟨r, hr, ho, ?_, ?_, ?_, ?_⟩
  · simpa [PN.cells, ho.p] using h0
  · simpa [PN.cells, ho.t] using h1
  · simpa [PN.cells] using h2
  · simpa [PN.cells, ho.ch] using h3

theorem POk.keeps {G : Nat → Prop} {w' : World} {r : PN} {x : Nd} (o : POk w F bf bn r x) (hk : Keeps G w w') (hG : ∀ b, r.kv.ownBlock = some b → ¬ G b) : POk w' F bf bn r x :=
  ⟨o.t, o.p, o.ch, hk.row o.kids hG, o.apart⟩

theorem PForAt.keeps {G : Nat → Prop} {w' : World} (h : PForAt w F bf bn cap pn s) (hk : Keeps G w w') (hG : ∀ b, F b → ¬ G b) : PForAt w' F bf bn cap pn s where
  forest := by rw [hk.block bf (heap_lt h.forest) (hG _ h.Ff)]; exact h.forest
  nodes := hk.row h.nodes (fun b e => by cases e; exact hG _ h.Fn)
  Ff := h.Ff
  Fn := h.Fn
  ne := h.ne
  len := h.len
  ok := fun i r x hr hx => (h.ok i r x hr hx).keeps hk (fun b e => hG _ ((h.ok i r x hr hx).apart b e).1)
  sep := h.sep

theorem PForAt.below {w' : World} (h : PForAt w F bf bn cap pn s) (hk : Below w.heap.size w w') : PForAt w' F bf bn cap pn s :=
  h.keeps (Keeps.of_below (F := fun _ => False) hk) (fun _ _ e => e)

theorem PForAt.wider {G : Nat → Prop} (h : PForAt w F bf bn cap pn s) (hG : ∀ b, F b → G b) : PForAt w G bf bn cap pn s where
  forest := h.forest
  nodes := h.nodes
  Ff := hG _ h.Ff
  Fn := hG _ h.Fn
  ne := h.ne
  len := h.len
  ok := fun i r x hr hx =>
    have o := h.ok i r x hr hx
    ⟨o.t, o.p, o.ch, o.kids, fun b e => ⟨hG _ (o.apart b e).1, (o.apart b e).2⟩⟩
  sep := h.sep

theorem PForAt.narrow (h : PForAt w F bf bn cap pn s) : PForAt w (fun b => F b ∧ b < w.heap.size) bf bn cap pn s where
  forest := h.forest
  nodes := h.nodes
  Ff := ⟨h.Ff, h.lt.1⟩
  Fn := ⟨h.Fn, h.lt.2⟩
  ne := h.ne
  len := h.len
  ok := fun i r x hr hx =>
    have o := h.ok i r x hr hx
    ⟨o.t, o.p, o.ch, o.kids, fun b e => ⟨⟨(o.apart b e).1, (o.kids.lt b e).2⟩, (o.apart b e).2⟩⟩
  sep := h.sep

theorem PForAt.drewN (h : PForAt w F bf bn cap pn s) (n : Nat) : PForAt (w.drewN n) F bf bn cap pn s :=
  h.keeps (G := fun _ => False) ⟨rfl, rfl, rfl, Nat.le_refl _, fun _ _ _ => rfl⟩ (fun _ _ e => e)
theorem PForAt.drew (h : PForAt w F bf bn cap pn s) : PForAt w.drew F bf bn cap pn s := h.drewN 1

/-- A node more: behind the append, and the store into the forest's field. -/
theorem PForAt.pushed (h : PForAt w F bf bn cap pn s) {w1 : World} {g cap' B : Nat} {r : PN} {x : Nd} (hB : B ≤ w.heap.size) (hg : w.grownBy w1 (some bn))
    (ho : w1.ownsRow 0 164 4 (.slice (some ⟨g, 0, none⟩) (pn.length + 1) cap') (pn.length + 1) (pn.flatMap PN.cells ++ r.cells)) (hgn : g = bn ∨ g = w.heap.size)
    (hn : r.kv = .slice none 0 0 ∧ r.t = x.t ∧ r.p = x.p ∧ r.ch = catB x.cs ∧ x.ks = []) :
    PForAt (w1.setCell ⟨bf, 0, none⟩ (.slice (some ⟨g, 0, none⟩) (pn.length + 1) cap')) (fun b => F b ∨ B ≤ b) bf g cap' (pn ++ [r]) (s ++ [x]) := by
  have hlt := h.lt
  have hgd : bf ≠ g := by
    rcases hgn with e | e
    · rw [e]; exact h.ne
    · omega
  have hk1 : Keeps (fun b => b = bn) w w1 := Keeps.grown hg (fun k e => by cases e; exact .inl rfl)
  have hk : Keeps (fun b => b = bn ∨ b = bf) w (w1.setCell ⟨bf, 0, none⟩ (.slice (some ⟨g, 0, none⟩) (pn.length + 1) cap')) :=
    (hk1.mono (fun k _ e => .inl e)).setCell (p := ⟨bf, 0, none⟩) (.inl (.inr rfl)) _
  have far : ∀ b, b < w.heap.size → b ≠ bn → b ≠ g := fun b hb hbn => by
    rcases hgn with e | e
    · rw [e]; exact hbn
    · omega
  refine ⟨?_, ?_, .inl h.Ff, ?_, hgd, by simp [h.len], ?_, ?_⟩
  · have e1 : w1.heap[bf]? = _ := (hk1.block bf hlt.1 h.ne).trans h.forest
    rw [heap_setCell_same w1 bf 0 _ _ _ e1]
    simp
  · rw [List.length_append, List.flatMap_append]
    simpa using row_setCell_other ho (p := ⟨bf, 0, none⟩) (by simp [Value.ownBlock]; exact fun e => hgd e.symm) _
  · rcases hgn with e | e
    · rw [e]; exact .inl h.Fn
    · exact .inr (by omega)
  · intro i r1 x1 h1 h2
    by_cases hi : i < pn.length
    · rw [List.getElem?_append_left hi] at h1
      rw [List.getElem?_append_left (by rw [← h.len]; exact hi)] at h2
      have o := h.ok i r1 x1 h1 h2
      refine ⟨o.t, o.p, o.ch, hk.row o.kids (fun b e e2 => ?_), fun b e => ⟨.inl (o.apart b e).1, (o.apart b e).2.1, far b (o.kids.lt b e).2 (o.apart b e).2.2⟩⟩
      rcases e2 with e2 | e2
      · exact (o.apart b e).2.2 e2
      · exact (o.apart b e).2.1 e2
    · have hi1 := (List.getElem?_eq_some_iff.1 h1).1
      simp at hi1
      have ei : i = pn.length := by omega
      subst ei
      rw [List.getElem?_append_right (Nat.le_refl _)] at h1
      rw [List.getElem?_append_right (by rw [← h.len]; exact Nat.le_refl _)] at h2
      simp at h1
      simp [h.len] at h2
      subst h1
      subst h2
      obtain ⟨e1, e2, e3, e4, e5⟩ := hn
      refine ⟨e2, e3, e4, ?_, ?_⟩
      · rw [e1, e5]; exact World.ownsRow_nil _ _ _ _
      · rw [e1]; intro b e; cases e
  · intro i j r1 r2 hij h1 h2 b e
    have hnil : r.kv.ownBlock = none := by rw [hn.1]; rfl
    by_cases hi : i < pn.length
    · rw [List.getElem?_append_left hi] at h1
      by_cases hj : j < pn.length
      · rw [List.getElem?_append_left hj] at h2
        exact h.sep i j r1 r2 hij h1 h2 b e
      · rw [List.getElem?_append_right (by omega)] at h2
        have hj1 := (List.getElem?_eq_some_iff.1 h2).1
        simp at hj1
        have : j - pn.length = 0 := by omega
        rw [this] at h2
        simp at h2
        subst h2
        rw [hnil]; simp
    · rw [List.getElem?_append_right (by omega)] at h1
      have hj1 := (List.getElem?_eq_some_iff.1 h1).1
      simp at hj1
      have : i - pn.length = 0 := by omega
      rw [this] at h1
      simp at h1
      subst h1
      rw [hnil] at e; cases e

/-- One node's children are others now: in the cells of its field (j = 2), or in the list's own block, all else as it was. -/
theorem PForAt.setNode (h : PForAt w F bf bn cap pn s) {i : Nat} {r r' : PN} {x x' : Nd} (hr : pn[i]? = some r) (hx : s[i]? = some x) (j : Nat) (hj : j < 4) (u : Value) (he : r'.cells = r.cells.set j u) (ho : POk w F bf bn r' x')
    (hs : ∀ (k : Nat) (r1 : PN), k ≠ i → pn[k]? = some r1 → ∀ b, r'.kv.ownBlock = some b → r1.kv.ownBlock ≠ some b) :
    PForAt (w.setCell ⟨bn, i * 4 + j, none⟩ u) F bf bn cap (pn.set i r') (s.set i x') := by
  have hk : Keeps (fun b => b = bn) w (w.setCell ⟨bn, i * 4 + j, none⟩ u) := (Keeps.refl (fun b => b = bn) w).setCell (p := ⟨bn, i * 4 + j, none⟩) (.inl rfl) u
  have hi := (List.getElem?_eq_some_iff.1 hr).1
  have hi' := (List.getElem?_eq_some_iff.1 hx).1
  refine ⟨?_, ?_, h.Ff, h.Fn, h.ne, by simpa using h.len, ?_, ?_⟩
  · rw [hk.block bf (heap_lt h.forest) h.ne, List.length_set]; exact h.forest
  · have := (h.nodes.stored (i * 4 + j) u).1
    rw [pcells_set pn i r r' hr j hj u he] at this
    rw [List.length_set]
    exact this
  · intro k r1 x1 h1 h2
    rw [List.getElem?_set] at h1 h2
    by_cases hik : i = k
    · subst hik
      rw [if_pos rfl, if_pos hi] at h1
      rw [if_pos rfl, if_pos hi'] at h2
      cases h1
      cases h2
      exact ho.keeps hk (fun b e e2 => (ho.apart b e).2.2 e2)
    · rw [if_neg hik] at h1 h2
      have o := h.ok k r1 x1 h1 h2
      exact o.keeps hk (fun b e e2 => (o.apart b e).2.2 e2)
  · intro a b ra rb hab h1 h2 c e
    rw [List.getElem?_set] at h1 h2
    by_cases ha : i = a
    · subst ha
      rw [if_pos rfl, if_pos hi] at h1
      cases h1
      rw [if_neg hab] at h2
      exact hs b rb (fun e => hab e.symm) h2 c e
    · rw [if_neg ha] at h1
      by_cases hb : i = b
      · subst hb
        rw [if_pos rfl, if_pos hi] at h2
        cases h2
        intro e2
        exact hs a ra (fun e => ha e.symm) h1 c e2 e
      · rw [if_neg hb] at h2
        exact h.sep a b ra rb hab h1 h2 c e

theorem PForAt.newPar (h : PForAt w F bf bn cap pn s) {i : Nat} {x : Nd} (p : Int) (hx : s[i]? = some x) :
    ∃ pn2, PForAt (w.setCell ⟨bn, i * 4, none⟩ (.int .i64 p)) F bf bn cap pn2 (s.set i { x with p := p }) := by
  obtain ⟨r, hr, ho⟩ := h.raw hx
  exact ⟨_, h.setNode (r' := { r with p := p }) hr hx 0 (by omega) _ rfl ⟨ho.t, rfl, ho.ch, ho.kids, ho.apart⟩ (fun k r1 hk h1 b e => h.sep i k r r1 (fun e => hk e.symm) hr h1 b e)⟩
end

end Go.Proofs.YtabogkonklplcaaGreatDoor

/- The characters of a text, one after another. -/
namespace Go.Proofs.YtabogkonklplcaaGreatDoor
open Go.RowKit
set_option linter.unusedSimpArgs false
set_option linter.unusedVariables false

theorem charsAt_end (t : ByteArray) (p : Nat) (h : t.size ≤ p) : charsOf (t.extract p t.size) = some [] := by
  rw [charsOf_step, if_pos (by rw [ByteArray.size_extract]; omega)]
theorem charsAt_bad (t : ByteArray) (p : Nat) (h : p < t.size) (hd : Utf8.decode t p = (65533, 1)) : charsOf (t.extract p t.size) = none := by
  rcases headW_at t p h with ⟨h0, _⟩ | ⟨_, _, h2⟩
  · rw [charsOf_step, if_neg (by rw [ByteArray.size_extract]; omega), if_pos h0]
  · exact absurd hd h2
theorem width_le (t : ByteArray) (p : Nat) (h : p < t.size) (hd : Utf8.decode t p ≠ (65533, 1)) : 0 < (Utf8.decode t p).2 ∧ p + (Utf8.decode t p).2 ≤ t.size := by
  rcases headW_at t p h with ⟨_, h0⟩ | ⟨h1, h2, _⟩
  · exact absurd h0 hd
  · have := headW_le (t.extract p t.size)
    rw [ByteArray.size_extract] at this
    rw [h2]
    omega
theorem charsAt_good (t : ByteArray) (p : Nat) (h : p < t.size) (hd : Utf8.decode t p ≠ (65533, 1)) :
    charsOf (t.extract p t.size) = (charsOf (t.extract (p + (Utf8.decode t p).2) t.size)).map (t.extract p (p + (Utf8.decode t p).2) :: ·) := by
  have hw := width_le t p h hd
  rcases headW_at t p h with ⟨_, h0⟩ | ⟨h1, h2, _⟩
  · exact absurd h0 hd
  · rw [charsOf_step, if_neg (by rw [ByteArray.size_extract]; omega), if_neg h1, ← h2]
    rw [ByteArray.size_extract, ByteArray.extract_extract, ByteArray.extract_extract]
    have e1 : min (p + (min t.size t.size - p)) t.size = t.size := by omega
    have e2 : min (p + (Utf8.decode t p).2) t.size = p + (Utf8.decode t p).2 := by omega
    rw [e1, e2]
    rfl

theorem if_cut {n m k : Nat} {q : Prop} {d : Decidable (m ≤ n ∧ q)} {d' : Decidable (m ≤ (if m ≤ n ∧ q then k else 0) ∧ q)} (hk : m ≤ k) (h : (if m ≤ n ∧ q then k else 0) ≠ 0) :
    (if m ≤ (if m ≤ n ∧ q then k else 0) ∧ q then k else 0) = if m ≤ n ∧ q then k else 0 := by
  by_cases c : m ≤ n ∧ q
  · have e : (if m ≤ n ∧ q then k else 0) = k := if_pos c
    exact (if_pos ⟨by rw [e]; exact hk, c.2⟩).trans e.symm
  · rw [if_neg c] at h; exact absurd rfl h
theorem headN_cut {n b0 b1 b2 b3 : Nat} (h : headN n b0 b1 b2 b3 ≠ 0) : headN (headN n b0 b1 b2 b3) b0 b1 b2 b3 = headN n b0 b1 b2 b3 := by
  unfold headN at h ⊢
  by_cases a : b0 < 128
  · simp only [if_pos a]
  simp only [if_neg a] at h ⊢
  by_cases c1 : 194 ≤ b0 ∧ b0 ≤ 223
  · simp only [if_pos c1] at h ⊢
    exact if_cut (by decide) h
  simp only [if_neg c1] at h ⊢
  by_cases c2 : b0 = 224
  · simp only [if_pos c2] at h ⊢
    exact if_cut (by decide) h
  simp only [if_neg c2] at h ⊢
  by_cases c3 : b0 = 237
  · simp only [if_pos c3] at h ⊢
    exact if_cut (by decide) h
  simp only [if_neg c3] at h ⊢
  by_cases c4 : 225 ≤ b0 ∧ b0 ≤ 239
  · simp only [if_pos c4] at h ⊢
    exact if_cut (by decide) h
  simp only [if_neg c4] at h ⊢
  by_cases c5 : b0 = 240
  · simp only [if_pos c5] at h ⊢
    exact if_cut (by decide) h
  simp only [if_neg c5] at h ⊢
  by_cases c6 : 241 ≤ b0 ∧ b0 ≤ 243
  · simp only [if_pos c6] at h ⊢
    exact if_cut (by decide) h
  simp only [if_neg c6] at h ⊢
  by_cases c7 : b0 = 244
  · simp only [if_pos c7] at h ⊢
    exact if_cut (by decide) h
  simp only [if_neg c7] at h ⊢

/-- Each of them is one character. -/
theorem isCh_head (t : ByteArray) (h : headW t ≠ 0) : IsCh (t.extract 0 (headW t)) := by
  have hle := headW_le t
  have hsz : (t.extract 0 (headW t)).size = headW t := by rw [ByteArray.size_extract]; omega
  refine ⟨by omega, ?_⟩
  have hb : ∀ i, i < headW t → byteI (t.extract 0 (headW t)) i = byteI t i := fun i hi => by rw [byteI_extract t 0 (headW t) i (by omega) hle, Nat.zero_add]
  have e1 := headW_eq t (by omega) (byteN t 0) (byteN t 1) (byteN t 2) (byteN t 3) (byteI_nat t 0 (by omega)) (fun h => byteI_nat t 1 h) (fun h => byteI_nat t 2 h) (fun h => byteI_nat t 3 h)
  have e2 := headW_eq (t.extract 0 (headW t)) (by omega) (byteN t 0) (byteN t 1) (byteN t 2) (byteN t 3) (by rw [hb 0 (by omega)]; exact byteI_nat t 0 (by omega)) (fun h => by rw [hb 1 (by omega)]; exact byteI_nat t 1 (by omega)) (fun h => by rw [hb 2 (by omega)]; exact byteI_nat t 2 (by omega)) (fun h => by rw [hb 3 (by omega)]; exact byteI_nat t 3 (by omega))
  rw [e2, hsz]
  rw [e1] at h ⊢
  exact headN_cut h

theorem charsOf_isCh (k : Nat) : ∀ (t : ByteArray) (l : List ByteArray), t.size ≤ k → charsOf t = some l → ∀ c ∈ l, IsCh c := by
  induction k with
  | zero =>
    intro t l hk h c hc
    rw [charsOf_step, if_pos (by omega)] at h
    cases h
    cases hc
  | succ k ih =>
    intro t l hk h c hc
    rw [charsOf_step] at h
    by_cases h0 : t.size = 0
    · rw [if_pos h0] at h; cases h; cases hc
    · rw [if_neg h0] at h
      by_cases h1 : headW t = 0
      · rw [if_pos h1] at h; cases h
      · rw [if_neg h1, Option.map_eq_some_iff] at h
        obtain ⟨l', h2, rfl⟩ := h
        rcases List.mem_cons.1 hc with rfl | hc
        · exact isCh_head t h1
        · exact ih _ l' (by rw [ByteArray.size_extract]; omega) h2 c hc

theorem catB_cons (c : ByteArray) (l : List ByteArray) : catB (c :: l) = c ++ catB l := by
  have g : ∀ (l : List ByteArray) (a : ByteArray), l.foldl (· ++ ·) a = a ++ l.foldl (· ++ ·) ⟨#[]⟩ := by
    intro l
    induction l with
    | nil => intro a; show a = a ++ ByteArray.empty; simp
    | cons b l ih =>
      intro a
      rw [List.foldl_cons, List.foldl_cons, ih (a ++ b), ih (⟨#[]⟩ ++ b), ← ByteArray.append_assoc]
      have e : (⟨#[]⟩ : ByteArray) ++ b = b := by show ByteArray.empty ++ b = b; simp
      rw [e]
  show List.foldl (· ++ ·) (⟨#[]⟩ ++ c) l = _
  rw [g]
  have e : (⟨#[]⟩ : ByteArray) ++ c = c := by show ByteArray.empty ++ c = c; simp
  rw [e]
  rfl

theorem charsOf_cat (k : Nat) : ∀ (t : ByteArray) (l : List ByteArray), t.size ≤ k → charsOf t = some l → catB l = t := by
  induction k with
  | zero =>
    intro t l hk h
    rw [charsOf_step, if_pos (by omega)] at h
    cases h
    exact (ByteArray.size_eq_zero_iff.1 (by omega)).symm
  | succ k ih =>
    intro t l hk h
    rw [charsOf_step] at h
    by_cases h0 : t.size = 0
    · rw [if_pos h0] at h; cases h; exact (ByteArray.size_eq_zero_iff.1 h0).symm
    · rw [if_neg h0] at h
      by_cases h1 : headW t = 0
      · rw [if_pos h1] at h; cases h
      · rw [if_neg h1, Option.map_eq_some_iff] at h
        obtain ⟨l', h2, rfl⟩ := h
        rw [catB_cons, ih _ l' (by rw [ByteArray.size_extract]; omega) h2, ← ByteArray.extract_eq_extract_append_extract (headW t) (by omega) (headW_le t)]
        simp

end Go.Proofs.YtabogkonklplcaaGreatDoor
