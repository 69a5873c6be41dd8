import Derived.Test.YtabogkonklplcaaGreatDoorV05

namespace Go.Proofs.YtabogkonklplcaaGreatDoor
open Go.RowKit
set_option linter.unusedSimpArgs false
set_option linter.unusedVariables false
structure PN where
  p : Int
  t : Bool
  kv : Value
  ch : ByteArray
def PN.cells (r : PN) : List Value := [.int .i64 r.p, .bool r.t, r.kv, .string r.ch]
theorem pcells_get (rn : List PN) (i : Nat) (r : PN) (h : rn[i]? = some r) (j : Nat) (hj : j < 4) : (rn.flatMap PN.cells)[i * 4 + j]? = r.cells[j]? := by
  induction rn generalizing i with
  | nil => simp at h
  | cons a l ih =>
    cases i with
    | zero =>
      simp at h; subst h
      rw [List.flatMap_cons, Nat.zero_mul, Nat.zero_add, List.getElem?_append_left (by simpa [PN.cells] using hj)]
    | succ i =>
      have e : (i + 1) * 4 + j = (i * 4 + j) + 4 := by omega
      rw [e, List.flatMap_cons, List.getElem?_append_right (by simp [PN.cells])]
      simpa [PN.cells] using ih i (by simpa using h)
theorem pcells_set (rn : List PN) (i : Nat) (r r' : PN) (h : rn[i]? = some r) (j : Nat) (hj : j < 4) (u : Value) (he : r'.cells = r.cells.set j u) :
    (rn.flatMap PN.cells).set (i * 4 + j) u = (rn.set i r').flatMap PN.cells := by
  induction rn generalizing i with
  | nil => simp at h
  | cons a l ih =>
    cases i with
    | zero =>
      simp at h; subst h
      simp only [List.flatMap_cons, List.set_cons_zero, Nat.zero_mul, Nat.zero_add]
      rw [List.set_append_left _ _ (by simpa [PN.cells] using hj), ← he]
    | succ i =>
      have e : (i + 1) * 4 + j = (i * 4 + j) + 4 := by omega
      simp only [List.flatMap_cons, List.set_cons_succ]
      rw [e, List.set_append_right _ _ (by simp [PN.cells])]
      congr 1
      simpa [PN.cells] using ih i (by simpa using h)
def catB (l : List ByteArray) : ByteArray := l.foldl (· ++ ·) ⟨#[]⟩
structure POk (w : World) (F : Nat → Prop) (bf bn : Nat) (r : PN) (x : Nd) : Prop where
  t : r.t = x.t
  p : r.p = x.p
  ch : r.ch = catB x.cs
  kids : w.ownsRow 0 3 1 r.kv x.ks.length (intsV x.ks)
  apart : ∀ b, r.kv.ownBlock = some b → F b ∧ b ≠ bf ∧ b ≠ bn
structure PForAt (w : World) (F : Nat → Prop) (bf bn cap : Nat) (pn : List PN) (s : List Nd) : Prop where
  forest : w.heap[bf]? = some (.cells #[.slice (some ⟨bn, 0, none⟩) pn.length cap] 167 (0, 0))
  nodes : w.ownsRow 0 164 4 (.slice (some ⟨bn, 0, none⟩) pn.length cap) pn.length (pn.flatMap PN.cells)
  Ff : F bf
  Fn : F bn
  ne : bf ≠ bn
  len : pn.length = s.length
  ok : ∀ (i : Nat) (r : PN) (x : Nd), pn[i]? = some r → s[i]? = some x → POk w F bf bn r x
  sep : ∀ (i j : Nat) (r r' : PN), i ≠ j → pn[i]? = some r → pn[j]? = some r' → ∀ b, r.kv.ownBlock = some b → r'.kv.ownBlock ≠ some b
def PFor (w : World) (F : Nat → Prop) (bf : Nat) (s : List Nd) : Prop := ∃ bn cap pn, PForAt w F bf bn cap pn s
section
variable {w : World} {F : Nat → Prop} {bf bn cap : Nat} {pn : List PN} {s : List Nd}
theorem PForAt.nodesCell (h : PForAt w F bf bn cap pn s) : w.cell? ⟨bf, 0, none⟩ = some (.slice (some ⟨bn, 0, none⟩) s.length cap) := by
  rw [cell_of_heap h.forest, ← h.len]; rfl
theorem PForAt.lt (h : PForAt w F bf bn cap pn s) : bf < w.heap.size ∧ bn < w.heap.size := ⟨heap_lt h.forest, (h.nodes.lt bn rfl).2⟩
theorem PForAt.raw (h : PForAt w F bf bn cap pn s) {i : Nat} {x : Nd} (hx : s[i]? = some x) : ∃ r, pn[i]? = some r ∧ POk w F bf bn r x := by
  have hi : i < pn.length := by rw [h.len]; exact (List.getElem?_eq_some_iff.1 hx).1
  exact ⟨pn[i], List.getElem?_eq_getElem hi, h.ok i _ x (List.getElem?_eq_getElem hi) hx⟩
theorem PForAt.cellAt (h : PForAt w F bf bn cap pn s) {i : Nat} {r : PN} (hr : pn[i]? = some r) (j : Nat) (hj : j < 4) : w.cell? ⟨bn, i * 4 + j, none⟩ = r.cells[j]? := by
  have hi := (List.getElem?_eq_some_iff.1 hr).1
  rw [h.nodes.cellAt (i * 4 + j) (by omega), pcells_get pn i r hr j hj]
theorem PForAt.look (h : PForAt w F bf bn cap pn s) {i : Nat} {x : Nd} (hx : s[i]? = some x) : ∃ r, pn[i]? = some r ∧ POk w F bf bn r x ∧
    w.cell? ⟨bn, i * 4, none⟩ = some (.int .i64 x.p) ∧ w.cell? ⟨bn, i * 4 + 1, none⟩ = some (.bool x.t) ∧ w.cell? ⟨bn, i * 4 + 2, none⟩ = some r.kv ∧ w.cell? ⟨bn, i * 4 + 3, none⟩ = some (.string (catB x.cs)) := by
  obtain ⟨r, hr, ho⟩ := h.raw hx
  have h0 := h.cellAt hr 0 (by omega)
  have h1 := h.cellAt hr 1 (by omega)
  have h2 := h.cellAt hr 2 (by omega)
  have h3 := h.cellAt hr 3 (by omega)
  refine ⟨r, hr, ho, ?_, ?_, ?_, ?_⟩
  · simpa [PN.cells, ho.p] using h0
  · simpa [PN.cells, ho.t] using h1
  · simpa [PN.cells] using h2
  · simpa [PN.cells, ho.ch] using h3
theorem POk.keeps {G : Nat → Prop} {w' : World} {r : PN} {x : Nd} (o : POk w F bf bn r x) (hk : Keeps G w w') (hG : ∀ b, r.kv.ownBlock = some b → ¬ G b) : POk w' F bf bn r x :=
  ⟨o.t, o.p, o.ch, hk.row o.kids hG, o.apart⟩
theorem PForAt.keeps {G : Nat → Prop} {w' : World} (h : PForAt w F bf bn cap pn s) (hk : Keeps G w w') (hG : ∀ b, F b → ¬ G b) : PForAt w' F bf bn cap pn s where
  forest := by rw [hk.block bf (heap_lt h.forest) (hG _ h.Ff)]; exact h.forest
  nodes := hk.row h.nodes (fun b e => by cases e; exact hG _ h.Fn)
  Ff := h.Ff
  Fn := h.Fn
  ne := h.ne
  len := h.len
  ok := fun i r x hr hx => (h.ok i r x hr hx).keeps hk (fun b e => hG _ ((h.ok i r x hr hx).apart b e).1)
  sep := h.sep
theorem PForAt.below {w' : World} (h : PForAt w F bf bn cap pn s) (hk : Below w.heap.size w w') : PForAt w' F bf bn cap pn s :=
  h.keeps (Keeps.of_below (F := fun _ => False) hk) (fun _ _ e => e)
theorem PForAt.wider {G : Nat → Prop} (h : PForAt w F bf bn cap pn s) (hG : ∀ b, F b → G b) : PForAt w G bf bn cap pn s where
  forest := h.forest
  nodes := h.nodes
  Ff := hG _ h.Ff
  Fn := hG _ h.Fn
  ne := h.ne
  len := h.len
  ok := fun i r x hr hx =>
    have o := h.ok i r x hr hx
    ⟨o.t, o.p, o.ch, o.kids, fun b e => ⟨hG _ (o.apart b e).1, (o.apart b e).2⟩⟩
  sep := h.sep
theorem PForAt.narrow (h : PForAt w F bf bn cap pn s) : PForAt w (fun b => F b ∧ b < w.heap.size) bf bn cap pn s where
  forest := h.forest
  nodes := h.nodes
  Ff := ⟨h.Ff, h.lt.1⟩
  Fn := ⟨h.Fn, h.lt.2⟩
  ne := h.ne
  len := h.len
  ok := fun i r x hr hx =>
    have o := h.ok i r x hr hx
    ⟨o.t, o.p, o.ch, o.kids, fun b e => ⟨⟨(o.apart b e).1, (o.kids.lt b e).2⟩, (o.apart b e).2⟩⟩
  sep := h.sep
theorem PForAt.drewN (h : PForAt w F bf bn cap pn s) (n : Nat) : PForAt (w.drewN n) F bf bn cap pn s :=
  h.keeps (G := fun _ => False) ⟨rfl, rfl, rfl, Nat.le_refl _, fun _ _ _ => rfl⟩ (fun _ _ e => e)
theorem PForAt.drew (h : PForAt w F bf bn cap pn s) : PForAt w.drew F bf bn cap pn s := h.drewN 1
theorem PForAt.pushed (h : PForAt w F bf bn cap pn s) {w1 : World} {g cap' B : Nat} {r : PN} {x : Nd} (hB : B ≤ w.heap.size) (hg : w.grownBy w1 (some bn))
    (ho : w1.ownsRow 0 164 4 (.slice (some ⟨g, 0, none⟩) (pn.length + 1) cap') (pn.length + 1) (pn.flatMap PN.cells ++ r.cells)) (hgn : g = bn ∨ g = w.heap.size)
    (hn : r.kv = .slice none 0 0 ∧ r.t = x.t ∧ r.p = x.p ∧ r.ch = catB x.cs ∧ x.ks = []) :
    PForAt (w1.setCell ⟨bf, 0, none⟩ (.slice (some ⟨g, 0, none⟩) (pn.length + 1) cap')) (fun b => F b ∨ B ≤ b) bf g cap' (pn ++ [r]) (s ++ [x]) := by
  have hlt := h.lt
  have hgd : bf ≠ g := by
    rcases hgn with e | e
    · rw [e]; exact h.ne
    · omega
  have hk1 : Keeps (fun b => b = bn) w w1 := Keeps.grown hg (fun k e => by cases e; exact .inl rfl)
  have hk : Keeps (fun b => b = bn ∨ b = bf) w (w1.setCell ⟨bf, 0, none⟩ (.slice (some ⟨g, 0, none⟩) (pn.length + 1) cap')) :=
    (hk1.mono (fun k _ e => .inl e)).setCell (p := ⟨bf, 0, none⟩) (.inl (.inr rfl)) _
  have far : ∀ b, b < w.heap.size → b ≠ bn → b ≠ g := fun b hb hbn => by
    rcases hgn with e | e
    · rw [e]; exact hbn
    · omega
  refine ⟨?_, ?_, .inl h.Ff, ?_, hgd, by simp [h.len], ?_, ?_⟩
  · have e1 : w1.heap[bf]? = _ := (hk1.block bf hlt.1 h.ne).trans h.forest
    rw [heap_setCell_same w1 bf 0 _ _ _ e1]
    simp
  · rw [List.length_append, List.flatMap_append]
    simpa using row_setCell_other ho (p := ⟨bf, 0, none⟩) (by simp [Value.ownBlock]; exact fun e => hgd e.symm) _
  · rcases hgn with e | e
    · rw [e]; exact .inl h.Fn
    · exact .inr (by omega)
  · intro i r1 x1 h1 h2
    by_cases hi : i < pn.length
    · rw [List.getElem?_append_left hi] at h1
      rw [List.getElem?_append_left (by rw [← h.len]; exact hi)] at h2
      have o := h.ok i r1 x1 h1 h2
      refine ⟨o.t, o.p, o.ch, hk.row o.kids (fun b e e2 => ?_), fun b e => ⟨.inl (o.apart b e).1, (o.apart b e).2.1, far b (o.kids.lt b e).2 (o.apart b e).2.2⟩⟩
      rcases e2 with e2 | e2
      · exact (o.apart b e).2.2 e2
      · exact (o.apart b e).2.1 e2
    · have hi1 := (List.getElem?_eq_some_iff.1 h1).1
      simp at hi1
      have ei : i = pn.length := by omega
      subst ei
      rw [List.getElem?_append_right (Nat.le_refl _)] at h1
      rw [List.getElem?_append_right (by rw [← h.len]; exact Nat.le_refl _)] at h2
      simp at h1
      simp [h.len] at h2
      subst h1
      subst h2
      obtain ⟨e1, e2, e3, e4, e5⟩ := hn
      refine ⟨e2, e3, e4, ?_, ?_⟩
      · rw [e1, e5]; exact World.ownsRow_nil _ _ _ _
      · rw [e1]; intro b e; cases e
  · intro i j r1 r2 hij h1 h2 b e
    have hnil : r.kv.ownBlock = none := by rw [hn.1]; rfl
    by_cases hi : i < pn.length
    · rw [List.getElem?_append_left hi] at h1
      by_cases hj : j < pn.length
      · rw [List.getElem?_append_left hj] at h2
        exact h.sep i j r1 r2 hij h1 h2 b e
      · rw [List.getElem?_append_right (by omega)] at h2
        have hj1 := (List.getElem?_eq_some_iff.1 h2).1
        simp at hj1
        have : j - pn.length = 0 := by omega
        rw [this] at h2
        simp at h2
        subst h2
        rw [hnil]; simp
    · rw [List.getElem?_append_right (by omega)] at h1
      have hj1 := (List.getElem?_eq_some_iff.1 h1).1
      simp at hj1
      have : i - pn.length = 0 := by omega
      rw [this] at h1
      simp at h1
      subst h1
      rw [hnil] at e; cases e
theorem PForAt.setNode (h : PForAt w F bf bn cap pn s) {i : Nat} {r r' : PN} {x x' : Nd} (hr : pn[i]? = some r) (hx : s[i]? = some x) (j : Nat) (hj : j < 4) (u : Value) (he : r'.cells = r.cells.set j u) (ho : POk w F bf bn r' x')
    (hs : ∀ (k : Nat) (r1 : PN), k ≠ i → pn[k]? = some r1 → ∀ b, r'.kv.ownBlock = some b → r1.kv.ownBlock ≠ some b) :
    PForAt (w.setCell ⟨bn, i * 4 + j, none⟩ u) F bf bn cap (pn.set i r') (s.set i x') := by
  have hk : Keeps (fun b => b = bn) w (w.setCell ⟨bn, i * 4 + j, none⟩ u) := (Keeps.refl (fun b => b = bn) w).setCell (p := ⟨bn, i * 4 + j, none⟩) (.inl rfl) u
  have hi := (List.getElem?_eq_some_iff.1 hr).1
  have hi' := (List.getElem?_eq_some_iff.1 hx).1
  refine ⟨?_, ?_, h.Ff, h.Fn, h.ne, by simpa using h.len, ?_, ?_⟩
  · rw [hk.block bf (heap_lt h.forest) h.ne, List.length_set]; exact h.forest
  · have := (h.nodes.stored (i * 4 + j) u).1
    rw [pcells_set pn i r r' hr j hj u he] at this
    rw [List.length_set]
    exact this
  · intro k r1 x1 h1 h2
    rw [List.getElem?_set] at h1 h2
    by_cases hik : i = k
    · subst hik
      rw [if_pos rfl, if_pos hi] at h1
      rw [if_pos rfl, if_pos hi'] at h2
      cases h1
      cases h2
      exact ho.keeps hk (fun b e e2 => (ho.apart b e).2.2 e2)
    · rw [if_neg hik] at h1 h2
      have o := h.ok k r1 x1 h1 h2
      exact o.keeps hk (fun b e e2 => (o.apart b e).2.2 e2)
  · intro a b ra rb hab h1 h2 c e
    rw [List.getElem?_set] at h1 h2
    by_cases ha : i = a
    · subst ha
      rw [if_pos rfl, if_pos hi] at h1
      cases h1
      rw [if_neg hab] at h2
      exact hs b rb (fun e => hab e.symm) h2 c e
    · rw [if_neg ha] at h1
      by_cases hb : i = b
      · subst hb
        rw [if_pos rfl, if_pos hi] at h2
        cases h2
        intro e2
        exact hs a ra (fun e => ha e.symm) h1 c e2 e
      · rw [if_neg hb] at h2
        exact h.sep a b ra rb hab h1 h2 c e
theorem PForAt.newPar (h : PForAt w F bf bn cap pn s) {i : Nat} {x : Nd} (p : Int) (hx : s[i]? = some x) :
    ∃ pn2, PForAt (w.setCell ⟨bn, i * 4, none⟩ (.int .i64 p)) F bf bn cap pn2 (s.set i { x with p := p }) := by
  obtain ⟨r, hr, ho⟩ := h.raw hx
  exact ⟨_, h.setNode (r' := { r with p := p }) hr hx 0 (by omega) _ rfl ⟨ho.t, rfl, ho.ch, ho.kids, ho.apart⟩ (fun k r1 hk h1 b e => h.sep i k r r1 (fun e => hk e.symm) hr h1 b e)⟩
end
end Go.Proofs.YtabogkonklplcaaGreatDoor
