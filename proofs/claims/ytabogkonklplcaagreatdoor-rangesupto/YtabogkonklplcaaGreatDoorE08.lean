import Derived.Test.YtabogkonklplcaaGreatDoorE07
import Derived.Test.YtabogkonklplcaaGreatDoorE03
import Derived.Test.YtabogkonklplcaaGreatDoorE06

/- Plain mathematics of the trees: what is within a node (allF), that none is there twice, how long what is shown is. Nothing of the walk. -/
namespace Go.Proofs.YtabogkonklplcaaGreatDoor
open Go.RowKit
set_option linter.unusedSimpArgs false
set_option linter.unusedVariables false

def kidsOf (s : List Nd) (i : Nat) : List Nat := match s[i]? with | some x => x.ks | none => []

/-- One character: its own width, and not none. -/
def IsCh (c : ByteArray) : Prop := c.size ≠ 0 ∧ headW c = c.size

/-- The state of a document, as promises P3 to P7 make it. -/
structure WF (s : List Nd) : Prop where
  pos : 0 < s.length
  cap : s.length ≤ 40
  up : ∃ h B, Up s h B
  kid : ∀ (i : Nat) (x : Nd), s[i]? = some x → ∀ c ∈ x.ks, ∃ y, s[c]? = some y ∧ y.p = (i : Int)
  par : ∀ (c : Nat) (y : Nd), s[c]? = some y → y.p = -1 ∨ ∃ (i : Nat) (x : Nd), y.p = (i : Int) ∧ s[i]? = some x ∧ c ∈ x.ks
  nodup : ∀ (i : Nat) (x : Nd), s[i]? = some x → x.ks.Nodup
  root : ∀ x, s[0]? = some x → x.p = -1
  elem : ∀ (i : Nat) (x : Nd), s[i]? = some x → (x.t = true → x.ks = []) ∧ (x.t = false → x.cs = [])
  chars : ∀ (i : Nat) (x : Nd), s[i]? = some x → x.cs.length ≤ 30 ∧ ∀ c ∈ x.cs, IsCh c

theorem headW_le4 (t : ByteArray) : headW t ≤ 4 := by
  have h := moreF_le (byteI t 0)
  unfold headW
  simp only []
  split
  · omega
  · split <;> omega

theorem WF.kid_lt {s : List Nd} (wf : WF s) {h : Nat → Nat} {B : Nat} (u : Up s h B) {i c : Nat} {x : Nd} (hx : s[i]? = some x) (hc : c ∈ x.ks) : c < s.length ∧ h c < h i := by
  obtain ⟨y, hy, hp⟩ := wf.kid i x hx c hc
  have := u.par c y hy (by omega)
  rw [hp] at this
  exact ⟨(List.getElem?_eq_some_iff.1 hy).1, by simpa using this.2⟩

/-- A node and all within it, so many levels deep. -/
def allF (s : List Nd) : Nat → Nat → List Nat
  | 0, _ => []
  | k + 1, n => n :: (kidsOf s n).flatMap (allF s k)

theorem kidsOf_eq {s : List Nd} {i : Nat} {x : Nd} (h : s[i]? = some x) : kidsOf s i = x.ks := by simp [kidsOf, h]
theorem kidsOf_mem {s : List Nd} {i c : Nat} (h : c ∈ kidsOf s i) : ∃ x, s[i]? = some x ∧ c ∈ x.ks := by
  unfold kidsOf at h
  split at h
  · exact ⟨_, ‹_›, h⟩
  · simp at h

/-- Going up so many times. -/
def climb (s : List Nd) : Nat → Nat → Int
  | 0, d => d
  | j + 1, d => if climb s j d < 0 then -1 else parOf s (climb s j d).toNat

theorem climb_step {s : List Nd} {j d e : Nat} (h : climb s j d = (e : Int)) : climb s (j + 1) d = parOf s e := by
  have : ¬ ((e : Int) < 0) := by omega
  simp [climb, h, this]

theorem climb_add {s : List Nd} {i d e : Nat} (h : climb s i d = (e : Int)) (j : Nat) : climb s (i + j) d = climb s j e := by
  induction j with
  | zero => exact h
  | succ j ih =>
    show climb s (i + j + 1) d = climb s (j + 1) e
    simp only [climb, ih]

theorem all_climb {s : List Nd} (wf : WF s) : ∀ (k n d : Nat), d ∈ allF s k n → ∃ j, climb s j d = (n : Int) := by
  intro k
  induction k with
  | zero => intro n d h; simp [allF] at h
  | succ k ih =>
    intro n d h
    simp only [allF, List.mem_cons, List.mem_flatMap] at h
    rcases h with rfl | ⟨c, hc, hd⟩
    · exact ⟨0, rfl⟩
    · obtain ⟨j, hj⟩ := ih c d hd
      obtain ⟨x, hx, hcx⟩ := kidsOf_mem hc
      obtain ⟨y, hy, hp⟩ := wf.kid n x hx c hcx
      exact ⟨j + 1, by rw [climb_step hj]; simp [parOf, hy, hp]⟩

theorem climb_height {s : List Nd} {h : Nat → Nat} {B : Nat} (u : Up s h B) : ∀ (j d e : Nat), climb s j d = (e : Int) → h d ≤ h e ∧ (0 < j → h d < h e) := by
  intro j
  induction j with
  | zero =>
    intro d e he
    have : d = e := by simp [climb] at he; omega
    subst this
    exact ⟨Nat.le_refl _, by omega⟩
  | succ j ih =>
    intro d e he
    by_cases hneg : climb s j d < 0
    · simp [climb, hneg] at he
    · obtain ⟨m, hm⟩ := Int.eq_ofNat_of_zero_le (show 0 ≤ climb s j d by omega)
      have h1 := ih d m hm
      rw [climb_step hm] at he
      unfold parOf at he
      split at he
      · rename_i x hx
        have := (u.par m x hx (by omega)).2
        rw [he] at this
        simp at this
        exact ⟨by omega, fun _ => by omega⟩
      · omega

theorem all_head_not {s : List Nd} (wf : WF s) {h : Nat → Nat} {B : Nat} (u : Up s h B) {k n c : Nat} (hc : c ∈ kidsOf s n) : n ∉ allF s k c := by
  intro hn
  obtain ⟨j, hj⟩ := all_climb wf k c n hn
  obtain ⟨x, hx, hcx⟩ := kidsOf_mem hc
  have h1 := (climb_height u j n c hj).1
  have h2 := (wf.kid_lt u hx hcx).2
  omega

theorem all_apart {s : List Nd} (wf : WF s) {h : Nat → Nat} {B : Nat} (u : Up s h B) {k n c1 c2 d : Nat} (h1 : c1 ∈ kidsOf s n) (h2 : c2 ∈ kidsOf s n) (hd1 : d ∈ allF s k c1) (hd2 : d ∈ allF s k c2) : c1 = c2 := by
  obtain ⟨j1, hj1⟩ := all_climb wf k c1 d hd1
  obtain ⟨j2, hj2⟩ := all_climb wf k c2 d hd2
  obtain ⟨x, hx, hx1⟩ := kidsOf_mem h1
  obtain ⟨x', hx', hx2⟩ := kidsOf_mem h2
  rw [hx] at hx'
  cases hx'
  obtain ⟨y1, hy1, hp1⟩ := wf.kid n x hx c1 hx1
  obtain ⟨y2, hy2, hp2⟩ := wf.kid n x hx c2 hx2
  have key : ∀ {a b ja jb : Nat} {ya : Nd}, climb s ja d = (a : Int) → climb s jb d = (b : Int) → s[a]? = some ya → ya.p = (n : Int) → h b < h n → ja < jb → False := by
    intro a b ja jb ya ha hb hya hpa hbn hlt
    have e1 : climb s (ja + 1) d = (n : Int) := by rw [climb_step ha]; simp [parOf, hya, hpa]
    have e2 := climb_add e1 (jb - (ja + 1))
    rw [show ja + 1 + (jb - (ja + 1)) = jb by omega, hb] at e2
    have := (climb_height u _ n b e2.symm).1
    omega
  have l1 := (wf.kid_lt u hx hx1).2
  have l2 := (wf.kid_lt u hx hx2).2
  rcases Nat.lt_trichotomy j1 j2 with e | e | e
  · exact (key hj1 hj2 hy1 hp1 l2 e).elim
  · subst e; rw [hj1] at hj2; omega
  · exact (key hj2 hj1 hy2 hp2 l1 e).elim

theorem all_nodup {s : List Nd} (wf : WF s) : ∀ (k n : Nat), (allF s k n).Nodup := by
  obtain ⟨h, B, u⟩ := wf.up
  intro k
  induction k with
  | zero => intro n; simp [allF]
  | succ k ih =>
    intro n
    simp only [allF, List.nodup_cons]
    refine ⟨?_, ?_⟩
    · intro hm
      obtain ⟨c, hc, hn⟩ := List.mem_flatMap.1 hm
      exact all_head_not wf u hc hn
    · unfold List.Nodup
      rw [List.pairwise_flatMap]
      refine ⟨fun c _ => ih c, ?_⟩
      have hnd : (kidsOf s n).Nodup := by
        unfold kidsOf
        split
        · exact wf.nodup n _ ‹_›
        · simp
      refine (List.Pairwise.and_mem.1 hnd).imp ?_
      rintro a b ⟨ha, hb, hne⟩ x hx y hy e
      subst e
      exact hne (all_apart wf u ha hb hx hy)

theorem all_lt {s : List Nd} (wf : WF s) : ∀ (k n : Nat), n < s.length → ∀ d ∈ allF s k n, d < s.length := by
  intro k
  induction k with
  | zero => intro n _ d h; simp [allF] at h
  | succ k ih =>
    intro n hn d h
    simp only [allF, List.mem_cons, List.mem_flatMap] at h
    rcases h with rfl | ⟨c, hc, hd⟩
    · exact hn
    · obtain ⟨x, hx, hcx⟩ := kidsOf_mem hc
      obtain ⟨y, hy, _⟩ := wf.kid n x hx c hcx
      exact ih c (List.getElem?_eq_some_iff.1 hy).1 d hd

theorem nodup_length : ∀ (n : Nat) (l : List Nat), l.Nodup → (∀ x ∈ l, x < n) → l.length ≤ n := by
  intro n
  induction n with
  | zero =>
    intro l _ h
    cases l with
    | nil => exact Nat.le_refl _
    | cons a l => exact absurd (h a (by simp)) (by omega)
  | succ n ih =>
    intro l hl h
    by_cases hm : n ∈ l
    · have h1 := List.length_erase_of_mem hm
      have h2 := ih (l.erase n) (hl.erase n) (fun x hx => by
        have := h x (List.mem_of_mem_erase hx)
        have hne := (hl.mem_erase_iff.1 hx).1
        omega)
      have : 0 < l.length := List.length_pos_of_mem hm
      omega
    · have := ih l hl (fun x hx => by
        have h1 := h x hx
        have : x ≠ n := fun e => hm (e ▸ hx)
        omega)
      omega

theorem all_length {s : List Nd} (wf : WF s) (k n : Nat) (hn : n < s.length) : (allF s k n).length ≤ 40 :=
  Nat.le_trans (nodup_length s.length _ (all_nodup wf k n) (all_lt wf k n hn)) wf.cap

theorem text_size (l : List ByteArray) (a : ByteArray) (h : ∀ c ∈ l, c.size ≤ 4) : (l.foldl textStep a).size ≤ a.size + 5 * l.length := by
  induction l generalizing a with
  | nil => simp
  | cons c l ih =>
    have h1 := ih (textStep a c) (fun x hx => h x (by simp [hx]))
    have h2 := h c (by simp)
    have h3 : (textStep a c).size ≤ a.size + 5 := by
      have e : (⟨#[92]⟩ : ByteArray).size = 1 := rfl
      unfold textStep
      split <;> simp only [ByteArray.size_append] <;> omega
    simp only [List.foldl_cons, List.length_cons]
    omega

theorem elem_size (f : Nat → ByteArray) (g : Nat → Nat) (l : List Nat) (a : ByteArray) (h : ∀ c ∈ l, (f c).size + 1 ≤ 400 * g c) : (l.foldl (elemStep f) a).size ≤ a.size + 400 * (l.map g).sum := by
  induction l generalizing a with
  | nil => simp
  | cons c l ih =>
    have h1 := ih (elemStep f a c) (fun x hx => h x (by simp [hx]))
    have h2 := h c (by simp)
    have h3 : (elemStep f a c).size = a.size + 1 + (f c).size := by
      have e : (⟨#[32]⟩ : ByteArray).size = 1 := rfl
      unfold elemStep
      simp only [ByteArray.size_append]; omega
    simp only [List.foldl_cons, List.map_cons, List.sum_cons]
    omega

/-- What is shown of a node is short. -/
theorem shown_size {s : List Nd} (wf : WF s) {h : Nat → Nat} {B : Nat} (u : Up s h B) : ∀ (k n : Nat), n < s.length → h n < k → (shownF s k n).size + 1 ≤ 400 * (allF s k n).length := by
  intro k
  induction k with
  | zero => intro n _ h; omega
  | succ k ih =>
    intro n hn hk
    have hx : s[n]? = some s[n] := List.getElem?_eq_getElem hn
    generalize s[n] = x at hx
    have hd := digB_size n
    have e1 : (⟨#[39]⟩ : ByteArray).size = 1 := rfl
    have e2 : (⟨#[60]⟩ : ByteArray).size = 1 := rfl
    have e3 : (⟨#[62]⟩ : ByteArray).size = 1 := rfl
    simp only [shownF, hx, allF, List.length_cons, List.length_flatMap]
    split
    · have h1 := text_size x.cs (digB n ++ ⟨#[39]⟩) (fun c hc => by have := (wf.chars n x hx).2 c hc; rw [← this.2]; exact headW_le4 c)
      have h2 := (wf.chars n x hx).1
      simp only [ByteArray.size_append] at h1 ⊢
      omega
    · have h1 := elem_size (shownF s k) (fun c => (allF s k c).length) x.ks (⟨#[60]⟩ ++ digB n) (fun c hc => by
        have := wf.kid_lt u hx hc
        exact ih c this.1 (by omega))
      rw [kidsOf_eq hx]
      simp only [ByteArray.size_append] at h1 ⊢
      omega

theorem foldl_same {α β : Type} (f g : α → β → α) (l : List β) (a : α) (h : ∀ x ∈ l, ∀ a, f a x = g a x) : l.foldl f a = l.foldl g a := by
  induction l generalizing a with
  | nil => rfl
  | cons c l ih =>
    simp only [List.foldl_cons]
    rw [h c (by simp) a]
    exact ih _ (fun x hx => h x (by simp [hx]))

theorem shown_stable {s : List Nd} (wf : WF s) {h : Nat → Nat} {B : Nat} (u : Up s h B) : ∀ (k k' n : Nat), h n < k → h n < k' → shownF s k n = shownF s k' n := by
  intro k
  induction k with
  | zero => intro k' n hk _; omega
  | succ k ih =>
    intro k' n hk hk'
    obtain ⟨j, rfl⟩ : ∃ j, k' = j + 1 := ⟨k' - 1, by omega⟩
    simp only [shownF]
    split
    · rfl
    · rename_i x hx
      split
      · rfl
      · congr 1
        refine foldl_same _ _ _ _ (fun c hc a => ?_)
        have := (wf.kid_lt u hx hc).2
        unfold elemStep
        rw [ih j c (by omega) (by omega)]

theorem shown_lim {s : List Nd} (wf : WF s) {h : Nat → Nat} {B : Nat} (u : Up s h B) {k n : Nat} (hk : h n < k) : Lim (fun c => shownF s c n) (shownF s k n) :=
  ⟨h n + 1, fun c hc => shown_stable wf u c k n (by omega) hk⟩

theorem all_stable {s : List Nd} (wf : WF s) {h : Nat → Nat} {B : Nat} (u : Up s h B) : ∀ (k k' n : Nat), h n < k → h n < k' → allF s k n = allF s k' n := by
  intro k
  induction k with
  | zero => intro k' n hk _; omega
  | succ k ih =>
    intro k' n hk hk'
    obtain ⟨j, rfl⟩ : ∃ j, k' = j + 1 := ⟨k' - 1, by omega⟩
    simp only [allF]
    congr 1
    rw [List.flatMap_def, List.flatMap_def]
    congr 1
    refine List.map_congr_left (fun c hc => ?_)
    obtain ⟨x, hx, hcx⟩ := kidsOf_mem hc
    have := (wf.kid_lt u hx hcx).2
    exact ih j c (by omega) (by omega)

end Go.Proofs.YtabogkonklplcaaGreatDoor

/- How package tree lays the state of a document in memory (PForAt), and how that changes. -/
namespace Go.Proofs.YtabogkonklplcaaGreatDoor
open Go.RowKit
set_option linter.unusedSimpArgs false
set_option linter.unusedVariables false

/-- One of tree's nodes as its cells hold it. -/
structure PN where
  p : Int
  t : Bool
  kv : Value
  ch : ByteArray
def PN.cells (r : PN) : List Value := [.int .i64 r.p, .bool r.t, r.kv, .string r.ch]

theorem pcells_get (rn : List PN) (i : Nat) (r : PN) (h : rn[i]? = some r) (j : Nat) (hj : j < 4) : (rn.flatMap PN.cells)[i * 4 + j]? = r.cells[j]? := by
  induction rn generalizing i with
  | nil => simp at h
  | cons a l ih =>
    cases i with
    | zero =>
      simp at h; subst h
      rw [List.flatMap_cons, Nat.zero_mul, Nat.zero_add, List.getElem?_append_left (by simpa [PN.cells] using hj)]
    | succ i =>
      have e : (i + 1) * 4 + j = (i * 4 + j) + 4 := by omega
      rw [e, List.flatMap_cons, List.getElem?_append_right (by simp [PN.cells])]
      simpa [PN.cells] using ih i (by simpa using h)

theorem pcells_set (rn : List PN) (i : Nat) (r r' : PN) (h : rn[i]? = some r) (j : Nat) (hj : j < 4) (u : Value) (he : r'.cells = r.cells.set j u) :
    (rn.flatMap PN.cells).set (i * 4 + j) u = (rn.set i r').flatMap PN.cells := by
  induction rn generalizing i with
  | nil => simp at h
  | cons a l ih =>
    cases i with
    | zero =>
      simp at h; subst h
      simp only [List.flatMap_cons, List.set_cons_zero, Nat.zero_mul, Nat.zero_add]
      rw [List.set_append_left _ _ (by simpa [PN.cells] using hj), ← he]
    | succ i =>
      have e : (i + 1) * 4 + j = (i * 4 + j) + 4 := by omega
      simp only [List.flatMap_cons, List.set_cons_succ]
      rw [e, List.set_append_right _ _ (by simp [PN.cells])]
      congr 1
      simpa [PN.cells] using ih i (by simpa using h)

/-- A list of characters as one text. -/
def catB (l : List ByteArray) : ByteArray := l.foldl (· ++ ·) ⟨#[]⟩

structure POk (w : World) (F : Nat → Prop) (bf bn : Nat) (r : PN) (x : Nd) : Prop where
  t : r.t = x.t
  p : r.p = x.p
  ch : r.ch = catB x.cs
  kids : w.ownsRow 0 3 1 r.kv x.ks.length (intsV x.ks)
  apart : ∀ b, r.kv.ownBlock = some b → F b ∧ b ≠ bf ∧ b ≠ bn

/-- A forest of package tree's in memory, all of it within F. No two nodes share a list of children. -/
structure PForAt (w : World) (F : Nat → Prop) (bf bn cap : Nat) (pn : List PN) (s : List Nd) : Prop where
  forest : w.heap[bf]? = some (.cells #[.slice (some ⟨bn, 0, none⟩) pn.length cap] 167 (0, 0))
  nodes : w.ownsRow 0 164 4 (.slice (some ⟨bn, 0, none⟩) pn.length cap) pn.length (pn.flatMap PN.cells)
  Ff : F bf
  Fn : F bn
  ne : bf ≠ bn
  len : pn.length = s.length
  ok : ∀ (i : Nat) (r : PN) (x : Nd), pn[i]? = some r → s[i]? = some x → POk w F bf bn r x
  sep : ∀ (i j : Nat) (r r' : PN), i ≠ j → pn[i]? = some r → pn[j]? = some r' → ∀ b, r.kv.ownBlock = some b → r'.kv.ownBlock ≠ some b

def PFor (w : World) (F : Nat → Prop) (bf : Nat) (s : List Nd) : Prop := ∃ bn cap pn, PForAt w F bf bn cap pn s

section
variable {w : World} {F : Nat → Prop} {bf bn cap : Nat} {pn : List PN} {s : List Nd}

theorem PForAt.nodesCell (h : PForAt w F bf bn cap pn s) : w.cell? ⟨bf, 0, none⟩ = some (.slice (some ⟨bn, 0, none⟩) s.length cap) := by
  rw [cell_of_heap h.forest, ← h.len]; rfl
theorem PForAt.lt (h : PForAt w F bf bn cap pn s) : bf < w.heap.size ∧ bn < w.heap.size := ⟨heap_lt h.forest, (h.nodes.lt bn rfl).2⟩

theorem PForAt.raw (h : PForAt w F bf bn cap pn s) {i : Nat} {x : Nd} (hx : s[i]? = some x) : ∃ r, pn[i]? = some r ∧ POk w F bf bn r x := by
  have hi : i < pn.length := by rw [h.len]; exact (List.getElem?_eq_some_iff.1 hx).1
  exact ⟨pn[i], List.getElem?_eq_getElem hi, h.ok i _ x (List.getElem?_eq_getElem hi) hx⟩

theorem PForAt.cellAt (h : PForAt w F bf bn cap pn s) {i : Nat} {r : PN} (hr : pn[i]? = some r) (j : Nat) (hj : j < 4) : w.cell? ⟨bn, i * 4 + j, none⟩ = r.cells[j]? := by
  have hi := (List.getElem?_eq_some_iff.1 hr).1
  rw [h.nodes.cellAt (i * 4 + j) (by omega), pcells_get pn i r hr j hj]

/-- What the walk reads of one node. -/
theorem PForAt.look (h : PForAt w F bf bn cap pn s) {i : Nat} {x : Nd} (hx : s[i]? = some x) : ∃ r, pn[i]? = some r ∧ POk w F bf bn r x ∧
    w.cell? ⟨bn, i * 4, none⟩ = some (.int .i64 x.p) ∧ w.cell? ⟨bn, i * 4 + 1, none⟩ = some (.bool x.t) ∧ w.cell? ⟨bn, i * 4 + 2, none⟩ = some r.kv ∧ w.cell? ⟨bn, i * 4 + 3, none⟩ = some (.string (catB x.cs)) := by
  obtain ⟨r, hr, ho⟩ := h.raw hx
  have h0 := h.cellAt hr 0 (by omega)
  have h1 := h.cellAt hr 1 (by omega)
  have h2 := h.cellAt hr 2 (by omega)
  have h3 := h.cellAt hr 3 (by omega)
  refine ⟨r, hr, ho, ?_, ?_, ?_, ?_⟩
  · simpa [PN.cells, ho.p] using h0
  · simpa [PN.cells, ho.t] using h1
  · simpa [PN.cells] using h2
  · simpa [PN.cells, ho.ch] using h3

theorem POk.keeps {G : Nat → Prop} {w' : World} {r : PN} {x : Nd} (o : POk w F bf bn r x) (hk : Keeps G w w') (hG : ∀ b, r.kv.ownBlock = some b → ¬ G b) : POk w' F bf bn r x :=
  ⟨o.t, o.p, o.ch, hk.row o.kids hG, o.apart⟩

theorem PForAt.keeps {G : Nat → Prop} {w' : World} (h : PForAt w F bf bn cap pn s) (hk : Keeps G w w') (hG : ∀ b, F b → ¬ G b) : PForAt w' F bf bn cap pn s where
  forest := by rw [hk.block bf (heap_lt h.forest) (hG _ h.Ff)]; exact h.forest
  nodes := hk.row h.nodes (fun b e => by cases e; exact hG _ h.Fn)
  Ff := h.Ff
  Fn := h.Fn
  ne := h.ne
  len := h.len
  ok := fun i r x hr hx => (h.ok i r x hr hx).keeps hk (fun b e => hG _ ((h.ok i r x hr hx).apart b e).1)
  sep := h.sep

theorem PForAt.below {w' : World} (h : PForAt w F bf bn cap pn s) (hk : Below w.heap.size w w') : PForAt w' F bf bn cap pn s :=
  h.keeps (Keeps.of_below (F := fun _ => False) hk) (fun _ _ e => e)

theorem PForAt.wider {G : Nat → Prop} (h : PForAt w F bf bn cap pn s) (hG : ∀ b, F b → G b) : PForAt w G bf bn cap pn s where
  forest := h.forest
  nodes := h.nodes
  Ff := hG _ h.Ff
  Fn := hG _ h.Fn
  ne := h.ne
  len := h.len
  ok := fun i r x hr hx =>
    have o := h.ok i r x hr hx
    ⟨o.t, o.p, o.ch, o.kids, fun b e => ⟨hG _ (o.apart b e).1, (o.apart b e).2⟩⟩
  sep := h.sep

theorem PForAt.narrow (h : PForAt w F bf bn cap pn s) : PForAt w (fun b => F b ∧ b < w.heap.size) bf bn cap pn s where
  forest := h.forest
  nodes := h.nodes
  Ff := ⟨h.Ff, h.lt.1⟩
  Fn := ⟨h.Fn, h.lt.2⟩
  ne := h.ne
  len := h.len
  ok := fun i r x hr hx =>
    have o := h.ok i r x hr hx
    ⟨o.t, o.p, o.ch, o.kids, fun b e => ⟨⟨(o.apart b e).1, (o.kids.lt b e).2⟩, (o.apart b e).2⟩⟩
  sep := h.sep

theorem PForAt.drewN (h : PForAt w F bf bn cap pn s) (n : Nat) : PForAt (w.drewN n) F bf bn cap pn s :=
  h.keeps (G := fun _ => False) ⟨rfl, rfl, rfl, Nat.le_refl _, fun _ _ _ => rfl⟩ (fun _ _ e => e)
theorem PForAt.drew (h : PForAt w F bf bn cap pn s) : PForAt w.drew F bf bn cap pn s := h.drewN 1

/-- A node more: behind the append, and the store into the forest's field. -/
theorem PForAt.pushed (h : PForAt w F bf bn cap pn s) {w1 : World} {g cap' B : Nat} {r : PN} {x : Nd} (hB : B ≤ w.heap.size) (hg : w.grownBy w1 (some bn))
    (ho : w1.ownsRow 0 164 4 (.slice (some ⟨g, 0, none⟩) (pn.length + 1) cap') (pn.length + 1) (pn.flatMap PN.cells ++ r.cells)) (hgn : g = bn ∨ g = w.heap.size)
    (hn : r.kv = .slice none 0 0 ∧ r.t = x.t ∧ r.p = x.p ∧ r.ch = catB x.cs ∧ x.ks = []) :
    PForAt (w1.setCell ⟨bf, 0, none⟩ (.slice (some ⟨g, 0, none⟩) (pn.length + 1) cap')) (fun b => F b ∨ B ≤ b) bf g cap' (pn ++ [r]) (s ++ [x]) := by
  have hlt := h.lt
  have hgd : bf ≠ g := by
    rcases hgn with e | e
    · rw [e]; exact h.ne
    · omega
  have hk1 : Keeps (fun b => b = bn) w w1 := Keeps.grown hg (fun k e => by cases e; exact .inl rfl)
  have hk : Keeps (fun b => b = bn ∨ b = bf) w (w1.setCell ⟨bf, 0, none⟩ (.slice (some ⟨g, 0, none⟩) (pn.length + 1) cap')) :=
    (hk1.mono (fun k _ e => .inl e)).setCell (p := ⟨bf, 0, none⟩) (.inl (.inr rfl)) _
  have far : ∀ b, b < w.heap.size → b ≠ bn → b ≠ g := fun b hb hbn => by
    rcases hgn with e | e
    · rw [e]; exact hbn
    · omega
  refine ⟨?_, ?_, .inl h.Ff, ?_, hgd, by simp [h.len], ?_, ?_⟩
  · have e1 : w1.heap[bf]? = _ := (hk1.block bf hlt.1 h.ne).trans h.forest
    rw [heap_setCell_same w1 bf 0 _ _ _ e1]
    simp
  · rw [List.length_append, List.flatMap_append]
    simpa using row_setCell_other ho (p := ⟨bf, 0, none⟩) (by simp [Value.ownBlock]; exact fun e => hgd e.symm) _
  · rcases hgn with e | e
    · rw [e]; exact .inl h.Fn
    · exact .inr (by omega)
  · intro i r1 x1 h1 h2
    by_cases hi : i < pn.length
    · rw [List.getElem?_append_left hi] at h1
      rw [List.getElem?_append_left (by rw [← h.len]; exact hi)] at h2
      have o := h.ok i r1 x1 h1 h2
      refine ⟨o.t, o.p, o.ch, hk.row o.kids (fun b e e2 => ?_), fun b e => ⟨.inl (o.apart b e).1, (o.apart b e).2.1, far b (o.kids.lt b e).2 (o.apart b e).2.2⟩⟩
      rcases e2 with e2 | e2
      · exact (o.apart b e).2.2 e2
      · exact (o.apart b e).2.1 e2
    · have hi1 := (List.getElem?_eq_some_iff.1 h1).1
      simp at hi1
      have ei : i = pn.length := by omega
      subst ei
      rw [List.getElem?_append_right (Nat.le_refl _)] at h1
      rw [List.getElem?_append_right (by rw [← h.len]; exact Nat.le_refl _)] at h2
      simp at h1
      simp [h.len] at h2
      subst h1
      subst h2
      obtain ⟨e1, e2, e3, e4, e5⟩ := hn
      refine ⟨e2, e3, e4, ?_, ?_⟩
      · rw [e1, e5]; exact World.ownsRow_nil _ _ _ _
      · rw [e1]; intro b e; cases e
  · intro i j r1 r2 hij h1 h2 b e
    have hnil : r.kv.ownBlock = none := by rw [hn.1]; rfl
    by_cases hi : i < pn.length
    · rw [List.getElem?_append_left hi] at h1
      by_cases hj : j < pn.length
      · rw [List.getElem?_append_left hj] at h2
        exact h.sep i j r1 r2 hij h1 h2 b e
      · rw [List.getElem?_append_right (by omega)] at h2
        have hj1 := (List.getElem?_eq_some_iff.1 h2).1
        simp at hj1
        have : j - pn.length = 0 := by omega
        rw [this] at h2
        simp at h2
        subst h2
        rw [hnil]; simp
    · rw [List.getElem?_append_right (by omega)] at h1
      have hj1 := (List.getElem?_eq_some_iff.1 h1).1
      simp at hj1
      have : i - pn.length = 0 := by omega
      rw [this] at h1
      simp at h1
      subst h1
      rw [hnil] at e; cases e

/-- One node's children are others now: in the cells of its field (j = 2), or in the list's own block, all else as it was. -/
theorem PForAt.setNode (h : PForAt w F bf bn cap pn s) {i : Nat} {r r' : PN} {x x' : Nd} (hr : pn[i]? = some r) (hx : s[i]? = some x) (j : Nat) (hj : j < 4) (u : Value) (he : r'.cells = r.cells.set j u) (ho : POk w F bf bn r' x')
    (hs : ∀ (k : Nat) (r1 : PN), k ≠ i → pn[k]? = some r1 → ∀ b, r'.kv.ownBlock = some b → r1.kv.ownBlock ≠ some b) :
    PForAt (w.setCell ⟨bn, i * 4 + j, none⟩ u) F bf bn cap (pn.set i r') (s.set i x') := by
  have hk : Keeps (fun b => b = bn) w (w.setCell ⟨bn, i * 4 + j, none⟩ u) := (Keeps.refl (fun b => b = bn) w).setCell (p := ⟨bn, i * 4 + j, none⟩) (.inl rfl) u
  have hi := (List.getElem?_eq_some_iff.1 hr).1
  have hi' := (List.getElem?_eq_some_iff.1 hx).1
  refine ⟨?_, ?_, h.Ff, h.Fn, h.ne, by simpa using h.len, ?_, ?_⟩
  · rw [hk.block bf (heap_lt h.forest) h.ne, List.length_set]; exact h.forest
  · have := (h.nodes.stored (i * 4 + j) u).1
    rw [pcells_set pn i r r' hr j hj u he] at this
    rw [List.length_set]
    exact this
  · intro k r1 x1 h1 h2
    rw [List.getElem?_set] at h1 h2
    by_cases hik : i = k
    · subst hik
      rw [if_pos rfl, if_pos hi] at h1
      rw [if_pos rfl, if_pos hi'] at h2
      cases h1
      cases h2
      exact ho.keeps hk (fun b e e2 => (ho.apart b e).2.2 e2)
    · rw [if_neg hik] at h1 h2
      have o := h.ok k r1 x1 h1 h2
      exact o.keeps hk (fun b e e2 => (o.apart b e).2.2 e2)
  · intro a b ra rb hab h1 h2 c e
    rw [List.getElem?_set] at h1 h2
    by_cases ha : i = a
    · subst ha
      rw [if_pos rfl, if_pos hi] at h1
      cases h1
      rw [if_neg hab] at h2
      exact hs b rb (fun e => hab e.symm) h2 c e
    · rw [if_neg ha] at h1
      by_cases hb : i = b
      · subst hb
        rw [if_pos rfl, if_pos hi] at h2
        cases h2
        intro e2
        exact hs a ra (fun e => ha e.symm) h1 c e2 e
      · rw [if_neg hb] at h2
        exact h.sep a b ra rb hab h1 h2 c e

theorem PForAt.newPar (h : PForAt w F bf bn cap pn s) {i : Nat} {x : Nd} (p : Int) (hx : s[i]? = some x) :
    ∃ pn2, PForAt (w.setCell ⟨bn, i * 4, none⟩ (.int .i64 p)) F bf bn cap pn2 (s.set i { x with p := p }) := by
  obtain ⟨r, hr, ho⟩ := h.raw hx
  exact ⟨_, h.setNode (r' := { r with p := p }) hr hx 0 (by omega) _ rfl ⟨ho.t, rfl, ho.ch, ho.kids, ho.apart⟩ (fun k r1 hk h1 b e => h.sep i k r r1 (fun e => hk e.symm) hr h1 b e)⟩
end

end Go.Proofs.YtabogkonklplcaaGreatDoor

/- marginlaw's nodes: one call on the program's document and on the document's own; what is asked of both (Ans..). -/
namespace Go.Proofs.YtabogkonklplcaaGreatDoor
open Go.RowKit
set_option linter.unusedSimpArgs false
set_option linter.unusedVariables false

/-- The state of a document: its nodes, its ranges. How the program lays one: of the world, its blocks, its address, its state; and what states there are. -/
structure St where
  n : List Nd
  r : List Sp
structure PDT where
  lies : World → (Nat → Prop) → Nat → St → Prop
  ok : St → Prop
instance : CoeFun PDT (fun _ => World → (Nat → Prop) → Nat → St → Prop) := ⟨PDT.lies⟩
abbrev RDocS (w : World) (F : Nat → Prop) (bd : Nat) (s : St) : Prop := RDoc w F bd s.n s.r

structure PDOk (PD : PDT) : Prop where
  keeps : ∀ {w w' : World} {F G : Nat → Prop} {b : Nat} {s : St}, PD w F b s → Keeps G w w' → (∀ b, F b → ¬ G b) → PD w' F b s
  wider : ∀ {w : World} {F G : Nat → Prop} {b : Nat} {s : St}, PD w F b s → (∀ b, F b → G b) → PD w G b s
  narrow : ∀ {w : World} {F : Nat → Prop} {b : Nat} {s : St}, PD w F b s → PD w (fun k => F k ∧ k < w.heap.size) b s
  root : PD.ok ⟨[rootNd], []⟩

def grow (F : Nat → Prop) (w : World) : Nat → Prop := fun b => F b ∨ w.heap.size ≤ b
abbrev ptr (b : Nat) : Value := .pointer (some ⟨b, 0, none⟩)
abbrev fltV (a y : Int) : Value := .agg #[.int .i64 a, .int .i64 y]

/-- What a call of the program's must have left. -/
def PPost (PD : PDT) (F : Nat → Prop) (w : World) (bx : Nat) (s' : St) (v : Value) (e : Ending) (w' : World) : Prop := e = .returned v ∧ Keeps F w w' ∧ PD w' (grow F w) bx s'
/-- What the document's own must have left. -/
def RPost (F : Nat → Prop) (w : World) (bd : Nat) (s' : St) (v : Value) (e : Ending) (w' : World) : Prop := e = .returned v ∧ Keeps F w w' ∧ RDocS w' (grow F w) bd s'

/-- Both answer alike: a call with the arguments 'args' behind the receiver; res v is the whole result where v tells of the fault. -/
def Ans (PD : PDT) (G : World → Prop) (s : St) (pf rf : FuncId) (args : List Value) (pres : Value → Value) (rres : Value → Value) : Prop :=
  ∃ (a y : Int) (s' : St), PD.ok s' ∧
    (∀ (w : World) (F : Nat → Prop) (bx : Nat), G w → PD w F bx s → Calls Tryz.prog pf (ptr bx :: args).toArray w (PPost PD F w bx s' (pres (errV a y)))) ∧
    (∀ (w : World) (F : Nat → Prop) (bd : Nat), RDocS w F bd s → Calls Tryz.prog rf (ptr bd :: args).toArray w (RPost F w bd s' (rres (fltV a y))))

/-- The play's own block. -/
def PlayAt (w : World) (yb : Nat) (psv : Value) : Prop := ∃ (l0 : Value) (a0 y0 : Int), w.heap[yb]? = some (.cells #[psv, l0, .int .i64 a0, .int .i64 y0] 34 (0, 0))

/-- Behind one step on one pair: both have the same state again; of the blocks that are new those below m are the program's. -/
def PairPost (PD : PDT) (FP FR : Nat → Prop) (w : World) (yb bx bd : Nat) (psv : Value) (e : Ending) (w' : World) : Prop :=
  e = .returned (.bool true) ∧ ∃ (m : Nat) (s' : St), w.heap.size ≤ m ∧ m ≤ w'.heap.size ∧ PD.ok s' ∧ Keeps (fun b => FP b ∨ FR b ∨ b = yb) w w' ∧ PlayAt w' yb psv ∧
    PD w' (fun b => FP b ∨ (w.heap.size ≤ b ∧ b < m)) bx s' ∧ RDocS w' (fun b => FR b ∨ (m ≤ b ∧ b < w'.heap.size)) bd s'

/-- Where a pair lies beside the play. -/
structure PairAt (PD : PDT) (FP FR : Nat → Prop) (w : World) (yb bx bd : Nat) (psv : Value) (s : St) : Prop where
  play : PlayAt w yb psv
  pd : PD w FP bx s
  rd : RDocS w FR bd s
  apart : ∀ b, FP b → ¬ FR b
  fy : ¬ FP yb
  ry : ¬ FR yb
  fl : ∀ b, FP b → b < w.heap.size
  rl : ∀ b, FR b → b < w.heap.size

abbrev opV (kind D A B C : Int) (S : ByteArray) (p0 p1 q0 q1 : Int) : Value := .agg #[.int .i64 kind, .int .i64 D, .int .i64 A, .int .i64 B, .int .i64 C, .string S, .int .i64 p0, .int .i64 p1, .int .i64 q0, .int .i64 q1]

section
variable {PD : PDT} {G : World → Prop} {FP FR : Nat → Prop} {w : World} {yb bx bd : Nat} {psv : Value} {s : St}

theorem PlayAt.keeps {w w' : World} {F : Nat → Prop} (h : PlayAt w yb psv) (hk : Keeps F w w') (hF : ¬ F yb) : PlayAt w' yb psv := by
  obtain ⟨l0, a0, y0, h⟩ := h
  exact ⟨l0, a0, y0, (hk.block yb (heap_lt h) hF).trans h⟩

theorem RDoc.narrow {w : World} {F : Nat → Prop} {bd : Nat} {s : List Nd} {rs : List Sp} (h : RDoc w F bd s rs) : RDoc w (fun b => F b ∧ b < w.heap.size) bd s rs := by
  obtain ⟨bn, cap, rn, rv, h⟩ := h
  exact ⟨bn, cap, rn, rv, h.narrow⟩
theorem RDoc.wider {w : World} {F G : Nat → Prop} {bd : Nat} {s : List Nd} {rs : List Sp} (h : RDoc w F bd s rs) (hG : ∀ b, F b → G b) : RDoc w G bd s rs := by
  obtain ⟨bn, cap, rn, rv, h⟩ := h
  exact ⟨bn, cap, rn, rv, h.wider hG⟩

/-- The pair, when the program's call has been made. -/
theorem PairAt.ref {W0 w1 : World} (hA : PairAt PD FP FR w yb bx bd psv s) (hb0 : Below w.heap.size w W0) (k1 : Keeps FP W0 w1) : RDocS w1 FR bd s :=
  (hA.rd.keeps (Keeps.of_below (F := fun _ => False) hb0) (fun _ _ e => e)).keeps k1 (fun b hr hp => hA.apart b hp hr)
theorem PairAt.old {W0 w1 : World} (hA : PairAt PD FP FR w yb bx bd psv s) (k1 : Keeps FP W0 w1) {b : Nat} {o : Obj} (hb : w.heap.size ≤ b) (h : W0.heap[b]? = some o) : w1.heap[b]? = some o :=
  (k1.block b (heap_lt h) (fun e => by have := hA.fl b e; omega)).trans h
theorem PairAt.old2 {w1 w2 : World} (hA : PairAt PD FP FR w yb bx bd psv s) (k2 : Keeps FR w1 w2) {b : Nat} {o : Obj} (hb : w.heap.size ≤ b) (h : w1.heap[b]? = some o) : w2.heap[b]? = some o :=
  (k2.block b (heap_lt h) (fun e => by have := hA.rl b e; omega)).trans h
theorem PairAt.play2 {W0 w1 w2 : World} (hA : PairAt PD FP FR w yb bx bd psv s) (hb0 : Below w.heap.size w W0) (k1 : Keeps FP W0 w1) (k2 : Keeps FR w1 w2) : PlayAt w2 yb psv :=
  ((hA.play.keeps (Keeps.of_below (F := fun _ => False) hb0) (fun e => e)).keeps k1 hA.fy).keeps k2 hA.ry

theorem pair_close (hPD : PDOk PD) (hA : PairAt PD FP FR w yb bx bd psv s) {W0 w1 w2 w4 : World} {s' : St} (hwf : PD.ok s') (hb0 : Below w.heap.size w W0) (k1 : Keeps FP W0 w1) (d1 : PD w1 (grow FP W0) bx s')
    (k2 : Keeps FR w1 w2) (r2 : RDocS w2 (grow FR w1) bd s') (k4 : Keeps (fun b => b = yb) w2 w4) (hp : PlayAt w4 yb psv) :
    PairPost PD FP FR w yb bx bd psv (.returned (.bool true)) w4 := by
  have z0 := hb0.size
  have z1 := k1.size
  have z2 := k2.size
  have z4 := k4.size
  have hyb : yb < w.heap.size := by obtain ⟨_, _, _, h⟩ := hA.play; exact heap_lt h
  refine ⟨rfl, w1.heap.size, s', by omega, by omega, hwf, ?_, hp, ?_, ?_⟩
  · have e1 : Keeps (fun b => FP b ∨ FR b ∨ b = yb) w w1 := (Keeps.of_below hb0).trans (k1.mono (fun k _ e => .inl (.inl e)))
    have e2 : Keeps (fun b => FP b ∨ FR b ∨ b = yb) w w2 := e1.trans (k2.mono (fun k _ e => .inl (.inr (.inl e))))
    exact e2.trans (k4.mono (fun k _ e => .inl (.inr (.inr e))))
  · have e1 := hPD.narrow d1
    have e2 := hPD.keeps e1 k2 (fun b hb hr => by
      rcases hb.1 with h | h
      · exact hA.apart b h hr
      · have := hA.rl b hr; omega)
    have e4 := hPD.keeps e2 k4 (fun b hb hy => by
      rcases hb.1 with h | h
      · exact hA.fy (hy ▸ h)
      · omega)
    refine hPD.wider e4 (fun b hb => ?_)
    rcases hb.1 with h | h
    · exact .inl h
    · exact .inr ⟨by omega, hb.2⟩
  · have e1 := r2.narrow
    have e4 := e1.keeps k4 (fun b hb hy => by
      rcases hb.1 with h | h
      · exact hA.ry (hy ▸ h)
      · omega)
    refine e4.wider (fun b hb => ?_)
    rcases hb.1 with h | h
    · exact .inl h
    · exact .inr ⟨h, by omega⟩

/-- The two boxes that nodes lays. -/
abbrev boxed2 (w : World) (bx bd : Nat) (kind D A B C : Int) (S : ByteArray) (p0 p1 q0 q1 : Int) : World :=
  (w.alloc (.cells #[ptr bx, ptr bd] 44)).alloc (.cells #[.int .i64 kind, .int .i64 D, .int .i64 A, .int .i64 B, .int .i64 C, .string S, .int .i64 p0, .int .i64 p1, .int .i64 q0, .int .i64 q1] 39)
theorem boxed2_below (w : World) (bx bd : Nat) (kind D A B C : Int) (S : ByteArray) (p0 p1 q0 q1 : Int) : Below w.heap.size w (boxed2 w bx bd kind D A B C S p0 p1 q0 q1) :=
  ((Below.refl _ w).alloc (Nat.le_refl _) _).alloc (by simp) _
theorem boxed2_pair (w : World) (bx bd : Nat) (kind D A B C : Int) (S : ByteArray) (p0 p1 q0 q1 : Int) : (boxed2 w bx bd kind D A B C S p0 p1 q0 q1).heap[w.heap.size]? = some (.cells #[ptr bx, ptr bd] 44 (0, 0)) := by
  rw [Below.heap_alloc _ _ _ (by simp), heap_alloc_new]
theorem boxed2_op (w : World) (bx bd : Nat) (kind D A B C : Int) (S : ByteArray) (p0 p1 q0 q1 : Int) : (boxed2 w bx bd kind D A B C S p0 p1 q0 q1).heap[w.heap.size + 1]? = some (.cells #[.int .i64 kind, .int .i64 D, .int .i64 A, .int .i64 B, .int .i64 C, .string S, .int .i64 p0, .int .i64 p1, .int .i64 q0, .int .i64 q1] 39 (0, 0)) := by
  have := heap_alloc_new (w.alloc (.cells #[ptr bx, ptr bd] 44)) (.cells #[.int .i64 kind, .int .i64 D, .int .i64 A, .int .i64 B, .int .i64 C, .string S, .int .i64 p0, .int .i64 p1, .int .i64 q0, .int .i64 q1] 39)
  simpa using this

set_option maxRecDepth 20000 in
set_option maxHeartbeats 4000000 in
theorem nodes_element (hPD : PDOk PD) (hGB : ∀ w w', G w → Below w.heap.size w w' → G w') (hA : PairAt PD FP FR w yb bx bd psv s) (hg : G w)
    (D A B C : Int) (S : ByteArray) (p0 p1 q0 q1 : Int) (h : ∃ n : Int, Ans PD G s 52 73 [] (fun v => .tuple #[.int .i64 n, v]) (fun v => .tuple #[.int .i64 n, v])) :
    Calls Tryz.prog 42 #[ptr yb, .agg #[ptr bx, ptr bd], opV 2 D A B C S p0 p1 q0 q1] w (PairPost PD FP FR w yb bx bd psv) := by
  obtain ⟨n, a, y, s', hwf, hp, hr⟩ := h
  have hB := boxed2_below w bx bd 2 D A B C S p0 p1 q0 q1
  have hbp := boxed2_pair w bx bd 2 D A B C S p0 p1 q0 q1
  have hbo := boxed2_op w bx bd 2 D A B C S p0 p1 q0 q1
  have CP := hid (hp (boxed2 w bx bd 2 D A B C S p0 p1 q0 q1) FP bx (hGB _ _ hg hB) (hPD.keeps hA.pd (Keeps.of_below (F := fun _ => False) hB) (fun _ _ e => e)))
  have HB := hid hB
  have HBP := hid hbp
  have HBO := hid hbo
  have HR := hid hr
  have HA := hid hA
  have HPD := hid hPD
  have HWF := hid hwf
  clear hp hr hB hbp hbo hA hPD hwf hg hGB
  go_enter Tryz.func42, Tryz.ntmps42
  go_wp2_with (first
    | (go_at_call 52
       refine CP.out.mono ?_
       clear CP
       rintro e w1 ⟨rfl, k1, d1⟩
       have hp1 := HA.out.old k1 (Nat.le_refl _) HBP.out
       have ho1 := HA.out.old k1 (Nat.le_succ _) HBO.out
       have c10 : w1.cell? ⟨w.heap.size, 0, none⟩ = some (ptr bx) := cell_of_heap hp1 0
       have c11 : w1.cell? ⟨w.heap.size, 1, none⟩ = some (ptr bd) := cell_of_heap hp1 1
       have c22 : w1.cell? ⟨w.heap.size + 1, 2, none⟩ = some (.int .i64 A) := cell_of_heap ho1 2
       have c23 : w1.cell? ⟨w.heap.size + 1, 3, none⟩ = some (.int .i64 B) := cell_of_heap ho1 3
       have c24 : w1.cell? ⟨w.heap.size + 1, 4, none⟩ = some (.int .i64 C) := cell_of_heap ho1 4
       have c25 : w1.cell? ⟨w.heap.size + 1, 5, none⟩ = some (.string S) := cell_of_heap ho1 5
       have CR := hid (HR.out w1 FR bd (HA.out.ref HB.out k1))
       have K1 := hid k1
       have D1 := hid d1
       clear k1 d1 hp1 ho1)
    | (go_at_call 73
       refine CR.out.mono ?_
       clear CR
       rintro e w2 ⟨rfl, k2, r2⟩
       have PL := hid (HA.out.play2 HB.out K1.out k2)
       have K2 := hid k2
       have R2 := hid r2
       clear k2 r2)
    | (go_at_call 20
       obtain ⟨l0, a0, y0, hq⟩ := PL.out
       refine (las_any yb psv l0 a0 y0 a y (w2.alloc (.cells #[.int .i64 a, .int .i64 y] 32)) ((Below.heap_alloc _ _ _ (heap_lt hq)).trans hq)).mono ?_
       rintro e w4 ⟨rfl, k4, hq4⟩
       have K4 := hid k4
       have Q4 := hid hq4
       clear k4 hq4 hq))
  go_ret
  exact pair_close HPD.out HA.out HWF.out HB.out K1.out D1.out K2.out R2.out ((((Keeps.refl (fun b => b = yb) w2).alloc _)).trans (K4.out.mono (fun k _ e => .inl e))) ⟨_, _, _, Q4.out⟩
set_option maxRecDepth 20000 in
set_option maxHeartbeats 4000000 in
theorem nodes_text (hPD : PDOk PD) (hGB : ∀ w w', G w → Below w.heap.size w w' → G w') (hA : PairAt PD FP FR w yb bx bd psv s) (hg : G w)
    (D A B C : Int) (S : ByteArray) (p0 p1 q0 q1 : Int) (h : ∃ n : Int, Ans PD G s 53 74 [.string S] (fun v => .tuple #[.int .i64 n, v]) (fun v => .tuple #[.int .i64 n, v])) :
    Calls Tryz.prog 42 #[ptr yb, .agg #[ptr bx, ptr bd], opV 3 D A B C S p0 p1 q0 q1] w (PairPost PD FP FR w yb bx bd psv) := by
  obtain ⟨n, a, y, s', hwf, hp, hr⟩ := h
  have hB := boxed2_below w bx bd 3 D A B C S p0 p1 q0 q1
  have hbp := boxed2_pair w bx bd 3 D A B C S p0 p1 q0 q1
  have hbo := boxed2_op w bx bd 3 D A B C S p0 p1 q0 q1
  have CP := hid (hp (boxed2 w bx bd 3 D A B C S p0 p1 q0 q1) FP bx (hGB _ _ hg hB) (hPD.keeps hA.pd (Keeps.of_below (F := fun _ => False) hB) (fun _ _ e => e)))
  have HB := hid hB
  have HBP := hid hbp
  have HBO := hid hbo
  have HR := hid hr
  have HA := hid hA
  have HPD := hid hPD
  have HWF := hid hwf
  clear hp hr hB hbp hbo hA hPD hwf hg hGB
  go_enter Tryz.func42, Tryz.ntmps42
  go_wp2_with (first
    | (go_at_call 53
       refine CP.out.mono ?_
       clear CP
       rintro e w1 ⟨rfl, k1, d1⟩
       have hp1 := HA.out.old k1 (Nat.le_refl _) HBP.out
       have ho1 := HA.out.old k1 (Nat.le_succ _) HBO.out
       have c10 : w1.cell? ⟨w.heap.size, 0, none⟩ = some (ptr bx) := cell_of_heap hp1 0
       have c11 : w1.cell? ⟨w.heap.size, 1, none⟩ = some (ptr bd) := cell_of_heap hp1 1
       have c22 : w1.cell? ⟨w.heap.size + 1, 2, none⟩ = some (.int .i64 A) := cell_of_heap ho1 2
       have c23 : w1.cell? ⟨w.heap.size + 1, 3, none⟩ = some (.int .i64 B) := cell_of_heap ho1 3
       have c24 : w1.cell? ⟨w.heap.size + 1, 4, none⟩ = some (.int .i64 C) := cell_of_heap ho1 4
       have c25 : w1.cell? ⟨w.heap.size + 1, 5, none⟩ = some (.string S) := cell_of_heap ho1 5
       have CR := hid (HR.out w1 FR bd (HA.out.ref HB.out k1))
       have K1 := hid k1
       have D1 := hid d1
       clear k1 d1 hp1 ho1)
    | (go_at_call 74
       refine CR.out.mono ?_
       clear CR
       rintro e w2 ⟨rfl, k2, r2⟩
       have PL := hid (HA.out.play2 HB.out K1.out k2)
       have K2 := hid k2
       have R2 := hid r2
       clear k2 r2)
    | (go_at_call 20
       obtain ⟨l0, a0, y0, hq⟩ := PL.out
       refine (las_any yb psv l0 a0 y0 a y (w2.alloc (.cells #[.int .i64 a, .int .i64 y] 32)) ((Below.heap_alloc _ _ _ (heap_lt hq)).trans hq)).mono ?_
       rintro e w4 ⟨rfl, k4, hq4⟩
       have K4 := hid k4
       have Q4 := hid hq4
       clear k4 hq4 hq))
  go_ret
  exact pair_close HPD.out HA.out HWF.out HB.out K1.out D1.out K2.out R2.out ((((Keeps.refl (fun b => b = yb) w2).alloc _)).trans (K4.out.mono (fun k _ e => .inl e))) ⟨_, _, _, Q4.out⟩

set_option maxRecDepth 20000 in
set_option maxHeartbeats 4000000 in
theorem nodes_insert (hPD : PDOk PD) (hGB : ∀ w w', G w → Below w.heap.size w w' → G w') (hA : PairAt PD FP FR w yb bx bd psv s) (hg : G w)
    (D A B C : Int) (S : ByteArray) (p0 p1 q0 q1 : Int) (h : Ans PD G s 54 75 [.int .i64 A, .int .i64 B, .int .i64 C] (fun v => v) (fun v => v)) :
    Calls Tryz.prog 42 #[ptr yb, .agg #[ptr bx, ptr bd], opV 4 D A B C S p0 p1 q0 q1] w (PairPost PD FP FR w yb bx bd psv) := by
  obtain ⟨a, y, s', hwf, hp, hr⟩ := h
  have hB := boxed2_below w bx bd 4 D A B C S p0 p1 q0 q1
  have hbp := boxed2_pair w bx bd 4 D A B C S p0 p1 q0 q1
  have hbo := boxed2_op w bx bd 4 D A B C S p0 p1 q0 q1
  have CP := hid (hp (boxed2 w bx bd 4 D A B C S p0 p1 q0 q1) FP bx (hGB _ _ hg hB) (hPD.keeps hA.pd (Keeps.of_below (F := fun _ => False) hB) (fun _ _ e => e)))
  have HB := hid hB
  have HBP := hid hbp
  have HBO := hid hbo
  have HR := hid hr
  have HA := hid hA
  have HPD := hid hPD
  have HWF := hid hwf
  clear hp hr hB hbp hbo hA hPD hwf hg hGB
  go_enter Tryz.func42, Tryz.ntmps42
  go_wp2_with (first
    | (go_at_call 54
       refine CP.out.mono ?_
       clear CP
       rintro e w1 ⟨rfl, k1, d1⟩
       have hp1 := HA.out.old k1 (Nat.le_refl _) HBP.out
       have ho1 := HA.out.old k1 (Nat.le_succ _) HBO.out
       have c10 : w1.cell? ⟨w.heap.size, 0, none⟩ = some (ptr bx) := cell_of_heap hp1 0
       have c11 : w1.cell? ⟨w.heap.size, 1, none⟩ = some (ptr bd) := cell_of_heap hp1 1
       have c22 : w1.cell? ⟨w.heap.size + 1, 2, none⟩ = some (.int .i64 A) := cell_of_heap ho1 2
       have c23 : w1.cell? ⟨w.heap.size + 1, 3, none⟩ = some (.int .i64 B) := cell_of_heap ho1 3
       have c24 : w1.cell? ⟨w.heap.size + 1, 4, none⟩ = some (.int .i64 C) := cell_of_heap ho1 4
       have c25 : w1.cell? ⟨w.heap.size + 1, 5, none⟩ = some (.string S) := cell_of_heap ho1 5
       have CR := hid (HR.out w1 FR bd (HA.out.ref HB.out k1))
       have K1 := hid k1
       have D1 := hid d1
       clear k1 d1 hp1 ho1)
    | (go_at_call 75
       refine CR.out.mono ?_
       clear CR
       rintro e w2 ⟨rfl, k2, r2⟩
       have PL := hid (HA.out.play2 HB.out K1.out k2)
       have K2 := hid k2
       have R2 := hid r2
       clear k2 r2)
    | (go_at_call 20
       obtain ⟨l0, a0, y0, hq⟩ := PL.out
       refine (las_any yb psv l0 a0 y0 a y w2 hq).mono ?_
       rintro e w4 ⟨rfl, k4, hq4⟩
       have K4 := hid k4
       have Q4 := hid hq4
       clear k4 hq4 hq))
  go_ret
  exact pair_close HPD.out HA.out HWF.out HB.out K1.out D1.out K2.out R2.out K4.out ⟨_, _, _, Q4.out⟩

set_option maxRecDepth 20000 in
set_option maxHeartbeats 4000000 in
theorem nodes_remove (hPD : PDOk PD) (hGB : ∀ w w', G w → Below w.heap.size w w' → G w') (hA : PairAt PD FP FR w yb bx bd psv s) (hg : G w)
    (D A B C : Int) (S : ByteArray) (p0 p1 q0 q1 : Int) (h : Ans PD G s 60 76 [.int .i64 A] (fun v => v) (fun v => v)) :
    Calls Tryz.prog 42 #[ptr yb, .agg #[ptr bx, ptr bd], opV 5 D A B C S p0 p1 q0 q1] w (PairPost PD FP FR w yb bx bd psv) := by
  obtain ⟨a, y, s', hwf, hp, hr⟩ := h
  have hB := boxed2_below w bx bd 5 D A B C S p0 p1 q0 q1
  have hbp := boxed2_pair w bx bd 5 D A B C S p0 p1 q0 q1
  have hbo := boxed2_op w bx bd 5 D A B C S p0 p1 q0 q1
  have CP := hid (hp (boxed2 w bx bd 5 D A B C S p0 p1 q0 q1) FP bx (hGB _ _ hg hB) (hPD.keeps hA.pd (Keeps.of_below (F := fun _ => False) hB) (fun _ _ e => e)))
  have HB := hid hB
  have HBP := hid hbp
  have HBO := hid hbo
  have HR := hid hr
  have HA := hid hA
  have HPD := hid hPD
  have HWF := hid hwf
  clear hp hr hB hbp hbo hA hPD hwf hg hGB
  go_enter Tryz.func42, Tryz.ntmps42
  go_wp2_with (first
    | (go_at_call 60
       refine CP.out.mono ?_
       clear CP
       rintro e w1 ⟨rfl, k1, d1⟩
       have hp1 := HA.out.old k1 (Nat.le_refl _) HBP.out
       have ho1 := HA.out.old k1 (Nat.le_succ _) HBO.out
       have c10 : w1.cell? ⟨w.heap.size, 0, none⟩ = some (ptr bx) := cell_of_heap hp1 0
       have c11 : w1.cell? ⟨w.heap.size, 1, none⟩ = some (ptr bd) := cell_of_heap hp1 1
       have c22 : w1.cell? ⟨w.heap.size + 1, 2, none⟩ = some (.int .i64 A) := cell_of_heap ho1 2
       have c23 : w1.cell? ⟨w.heap.size + 1, 3, none⟩ = some (.int .i64 B) := cell_of_heap ho1 3
       have c24 : w1.cell? ⟨w.heap.size + 1, 4, none⟩ = some (.int .i64 C) := cell_of_heap ho1 4
       have c25 : w1.cell? ⟨w.heap.size + 1, 5, none⟩ = some (.string S) := cell_of_heap ho1 5
       have CR := hid (HR.out w1 FR bd (HA.out.ref HB.out k1))
       have K1 := hid k1
       have D1 := hid d1
       clear k1 d1 hp1 ho1)
    | (go_at_call 76
       refine CR.out.mono ?_
       clear CR
       rintro e w2 ⟨rfl, k2, r2⟩
       have PL := hid (HA.out.play2 HB.out K1.out k2)
       have K2 := hid k2
       have R2 := hid r2
       clear k2 r2)
    | (go_at_call 20
       obtain ⟨l0, a0, y0, hq⟩ := PL.out
       refine (las_any yb psv l0 a0 y0 a y w2 hq).mono ?_
       rintro e w4 ⟨rfl, k4, hq4⟩
       have K4 := hid k4
       have Q4 := hid hq4
       clear k4 hq4 hq))
  go_ret
  exact pair_close HPD.out HA.out HWF.out HB.out K1.out D1.out K2.out R2.out K4.out ⟨_, _, _, Q4.out⟩

set_option maxRecDepth 20000 in
set_option maxHeartbeats 4000000 in
theorem nodes_show (hPD : PDOk PD) (hGB : ∀ w w', G w → Below w.heap.size w w' → G w') (hA : PairAt PD FP FR w yb bx bd psv s) (hg : G w)
    (D A B C : Int) (S : ByteArray) (p0 p1 q0 q1 : Int) (h : ∃ b : ByteArray, Ans PD G s 55 77 [.int .i64 A] (fun v => .tuple #[.string b, v]) (fun v => .tuple #[.string b, v])) :
    Calls Tryz.prog 42 #[ptr yb, .agg #[ptr bx, ptr bd], opV 6 D A B C S p0 p1 q0 q1] w (PairPost PD FP FR w yb bx bd psv) := by
  obtain ⟨b, a, y, s', hwf, hp, hr⟩ := h
  have hB := boxed2_below w bx bd 6 D A B C S p0 p1 q0 q1
  have hbp := boxed2_pair w bx bd 6 D A B C S p0 p1 q0 q1
  have hbo := boxed2_op w bx bd 6 D A B C S p0 p1 q0 q1
  have CP := hid (hp (boxed2 w bx bd 6 D A B C S p0 p1 q0 q1) FP bx (hGB _ _ hg hB) (hPD.keeps hA.pd (Keeps.of_below (F := fun _ => False) hB) (fun _ _ e => e)))
  have HB := hid hB
  have HBP := hid hbp
  have HBO := hid hbo
  have HR := hid hr
  have HA := hid hA
  have HPD := hid hPD
  have HWF := hid hwf
  clear hp hr hB hbp hbo hA hPD hwf hg hGB
  have hbb : (b.toList == b.toList) = true := by simp
  go_enter Tryz.func42, Tryz.ntmps42
  go_wp2_with (first
    | (go_at_call 55
       refine CP.out.mono ?_
       clear CP
       rintro e w1 ⟨rfl, k1, d1⟩
       have hp1 := HA.out.old k1 (Nat.le_refl _) HBP.out
       have ho1 := HA.out.old k1 (Nat.le_succ _) HBO.out
       have c10 : w1.cell? ⟨w.heap.size, 0, none⟩ = some (ptr bx) := cell_of_heap hp1 0
       have c11 : w1.cell? ⟨w.heap.size, 1, none⟩ = some (ptr bd) := cell_of_heap hp1 1
       have c22 : w1.cell? ⟨w.heap.size + 1, 2, none⟩ = some (.int .i64 A) := cell_of_heap ho1 2
       have c23 : w1.cell? ⟨w.heap.size + 1, 3, none⟩ = some (.int .i64 B) := cell_of_heap ho1 3
       have c24 : w1.cell? ⟨w.heap.size + 1, 4, none⟩ = some (.int .i64 C) := cell_of_heap ho1 4
       have c25 : w1.cell? ⟨w.heap.size + 1, 5, none⟩ = some (.string S) := cell_of_heap ho1 5
       have CR := hid (HR.out w1 FR bd (HA.out.ref HB.out k1))
       have K1 := hid k1
       have D1 := hid d1
       clear k1 d1 hp1 ho1)
    | (go_at_call 77
       refine CR.out.mono ?_
       clear CR
       rintro e w2 ⟨rfl, k2, r2⟩
       have PL := hid (HA.out.play2 HB.out K1.out k2)
       have K2 := hid k2
       have R2 := hid r2
       clear k2 r2)
    | (go_at_call 20
       obtain ⟨l0, a0, y0, hq⟩ := PL.out
       refine (las_any yb psv l0 a0 y0 a y (w2.alloc (.cells #[.int .i64 a, .int .i64 y] 32)) ((Below.heap_alloc _ _ _ (heap_lt hq)).trans hq)).mono ?_
       rintro e w4 ⟨rfl, k4, hq4⟩
       have K4 := hid k4
       have Q4 := hid hq4
       clear k4 hq4 hq))
  go_ret
  exact pair_close HPD.out HA.out HWF.out HB.out K1.out D1.out K2.out R2.out ((((Keeps.refl (fun b => b = yb) w2).alloc _)).trans (K4.out.mono (fun k _ e => .inl e))) ⟨_, _, _, Q4.out⟩
end

end Go.Proofs.YtabogkonklplcaaGreatDoor

/- The state stays a document's: a node more, an insertion, a removal. Plain mathematics. -/
namespace Go.Proofs.YtabogkonklplcaaGreatDoor
open Go.RowKit
set_option linter.unusedSimpArgs false
set_option linter.unusedVariables false

theorem wf_push {s : List Nd} (wf : WF s) (h40 : s.length < 40) (x : Nd) (hp : x.p = -1) (hk : x.ks = []) (he : x.t = false → x.cs = []) (hc : x.cs.length ≤ 30 ∧ ∀ c ∈ x.cs, IsCh c) : WF (s ++ [x]) := by
  have old : ∀ {i : Nat} {y : Nd}, (s ++ [x])[i]? = some y → s[i]? = some y ∨ (i = s.length ∧ y = x) := by
    intro i y h
    by_cases hi : i < s.length
    · rw [List.getElem?_append_left hi] at h; exact .inl h
    · rw [List.getElem?_append_right (by omega)] at h
      have h1 := (List.getElem?_eq_some_iff.1 h).1
      simp at h1
      have e : i = s.length := by omega
      subst e
      simp at h
      exact .inr ⟨rfl, h.symm⟩
  have new : ∀ {i : Nat} {y : Nd}, s[i]? = some y → (s ++ [x])[i]? = some y := by
    intro i y h
    rw [List.getElem?_append_left (List.getElem?_eq_some_iff.1 h).1]; exact h
  refine ⟨by simp, by simp; omega, ?_, ?_, ?_, ?_, ?_, ?_, ?_⟩
  · obtain ⟨h, B, u⟩ := wf.up
    refine ⟨h, B, u.le, fun i y hy hyp => ?_⟩
    rcases old hy with hy | ⟨rfl, rfl⟩
    · have := u.par i y hy hyp
      exact ⟨by simp; omega, this.2⟩
    · rw [hp] at hyp; omega
  · intro i y hy c hc2
    rcases old hy with hy | ⟨rfl, rfl⟩
    · obtain ⟨z, hz, hzp⟩ := wf.kid i y hy c hc2
      exact ⟨z, new hz, hzp⟩
    · rw [hk] at hc2; simp at hc2
  · intro c y hy
    rcases old hy with hy | ⟨rfl, rfl⟩
    · rcases wf.par c y hy with h | ⟨i, z, h1, h2, h3⟩
      · exact .inl h
      · exact .inr ⟨i, z, h1, new h2, h3⟩
    · exact .inl hp
  · intro i y hy
    rcases old hy with hy | ⟨rfl, rfl⟩
    · exact wf.nodup i y hy
    · rw [hk]; simp
  · intro y hy
    rcases old hy with hy | ⟨h, rfl⟩
    · exact wf.root y hy
    · exact hp
  · intro i y hy
    rcases old hy with hy | ⟨rfl, rfl⟩
    · exact wf.elem i y hy
    · exact ⟨fun _ => hk, he⟩
  · intro i y hy
    rcases old hy with hy | ⟨rfl, rfl⟩
    · exact wf.chars i y hy
    · exact hc

/-- Two nodes turned: one's children, another one's parent. -/
theorem set2_get {s : List Nd} {i j : Nat} {x y : Nd} (hx : s[i]? = some x) (hy : s[j]? = some y) (hij : i ≠ j) (ks : List Nat) (p : Int) (c : Nat) :
    ((s.set i { x with ks := ks }).set j { y with p := p })[c]? = (s[c]?).map (fun z => if c = j then { z with p := p } else if c = i then { z with ks := ks } else z) := by
  have hi := (List.getElem?_eq_some_iff.1 hx).1
  have hj := (List.getElem?_eq_some_iff.1 hy).1
  rw [List.getElem?_set, List.getElem?_set]
  by_cases h1 : j = c
  · subst h1
    rw [if_pos rfl, if_pos (by simpa using hj), hy]
    simp
  · rw [if_neg h1]
    by_cases h2 : i = c
    · subst h2
      rw [if_pos rfl, if_pos hi, hx]
      have e1 : ¬ i = j := hij
      simp [e1]
    · rw [if_neg h2]
      have e1 : ¬ c = j := fun e => h1 e.symm
      have e2 : ¬ c = i := fun e => h2 e.symm
      simp [e1, e2]

theorem within_true_of_climb {s : List Nd} {h : Nat → Nat} {B : Nat} (u : Up s h B) : ∀ (m d e : Nat), d < s.length → climb s m d = (e : Int) → Lim (fun c => withinF s c (d : Int) (e : Int)) true := by
  intro m
  induction m with
  | zero =>
    intro d e hd he
    have : d = e := by simp [climb] at he; omega
    subst this
    exact within_hit s _ (by omega)
  | succ m ih =>
    intro d e hd he
    by_cases hde : (d : Int) = (e : Int)
    · have : d = e := by omega
      subst this
      exact within_hit s _ (by omega)
    · have hx : s[d]? = some s[d] := List.getElem?_eq_getElem hd
      generalize s[d] = x at hx
      refine within_up s d x e hx hde ?_
      have e1 : climb s 1 d = x.p := by rw [climb_step (j := 0) (e := d) rfl]; simp [parOf, hx]
      by_cases hp : 0 ≤ x.p
      · obtain ⟨q, hq⟩ := Int.eq_ofNat_of_zero_le hp
        rw [hq] at e1 ⊢
        have e2 := climb_add e1 m
        rw [Nat.add_comm 1 m, he] at e2
        have := (u.par d x hx hp).1
        exact ih q e (by omega) e2.symm
      · exfalso
        have hneg : ∀ k, climb s (k + 1) d < 0 := by
          intro k
          induction k with
          | zero => rw [show (0 + 1) = 1 from rfl, e1]; omega
          | succ k ih2 => simp [climb] at ih2 ⊢; omega
        have := hneg m
        omega

theorem wf_insert {s : List Nd} (wf : WF s) {i j k : Nat} {x y : Nd} (h : InsOk s i j x y) (hw : Lim (fun c => withinF s c (i : Int) (j : Int)) false) (hk : k ≤ x.ks.length) :
    i ≠ j ∧ WF ((s.set i { x with ks := x.ks.take k ++ j :: x.ks.drop k }).set j { y with p := i }) := by
  obtain ⟨hx, hy, ht, hj, hyp⟩ := h
  have hil := (List.getElem?_eq_some_iff.1 hx).1
  have hjl := (List.getElem?_eq_some_iff.1 hy).1
  have hij : i ≠ j := by
    intro e
    subst e
    have := (within_hit s (i : Int) (by omega)).unique hw
    cases this
  obtain ⟨ht0, B, u⟩ := wf.up
  have noanc : ∀ m, climb s m i ≠ (j : Int) := by
    intro m e
    have := (within_true_of_climb u m i j hil e).unique hw
    cases this
  have jnot : j ∉ x.ks := by
    intro e
    obtain ⟨z, hz, hzp⟩ := wf.kid i x hx j e
    rw [hy] at hz
    cases hz
    omega
  have get := set2_get hx hy hij (x.ks.take k ++ j :: x.ks.drop k) (i : Int)
  have mem : ∀ c, c ∈ x.ks.take k ++ j :: x.ks.drop k ↔ c = j ∨ c ∈ x.ks := by
    intro c
    conv => rhs; rw [← List.take_append_drop k x.ks]
    simp only [List.mem_append, List.mem_cons]
    constructor
    · rintro (h | h | h) <;> simp [h]
    · rintro (h | h | h) <;> simp [h]
  -- what a node of the new state was
  have was : ∀ {c : Nat} {z' : Nd}, ((s.set i { x with ks := x.ks.take k ++ j :: x.ks.drop k }).set j { y with p := i })[c]? = some z' → ∃ z, s[c]? = some z ∧ z'.t = z.t ∧ z'.cs = z.cs ∧ z'.p = (if c = j then (i : Int) else z.p) ∧ z'.ks = (if c = i then x.ks.take k ++ j :: x.ks.drop k else z.ks) := by
    intro c z' hz'
    rw [get c] at hz'
    obtain ⟨z, hz, rfl⟩ := Option.map_eq_some_iff.1 hz'
    refine ⟨z, hz, ?_⟩
    by_cases e1 : c = j
    · subst e1
      have e2 : ¬ c = i := fun e => hij e.symm
      simp [e2]
    · by_cases e2 : c = i
      · subst e2; simp [e1]
      · simp [e1, e2]
  have now : ∀ {c : Nat} {z : Nd}, s[c]? = some z → ∃ z', ((s.set i { x with ks := x.ks.take k ++ j :: x.ks.drop k }).set j { y with p := i })[c]? = some z' ∧ z'.p = (if c = j then (i : Int) else z.p) ∧ z'.ks = (if c = i then x.ks.take k ++ j :: x.ks.drop k else z.ks) := by
    intro c z hz
    refine ⟨_, by rw [get c, hz]; rfl, ?_⟩
    by_cases e1 : c = j
    · subst e1
      have e2 : ¬ c = i := fun e => hij e.symm
      simp [e2]
    · by_cases e2 : c = i
      · subst e2; simp [e1]
      · simp [e1, e2]
  refine ⟨hij, by simpa using wf.pos, by simpa using wf.cap, ?_, ?_, ?_, ?_, ?_, ?_, ?_⟩
  · classical
    refine ⟨fun d => if ∃ m, climb s m i = (d : Int) then ht0 d + ht0 j + 1 else ht0 d, B + B + 1, fun d => ?_, fun d z' hz' hp' => ?_⟩
    · have h1 := u.le d
      have h2 := u.le j
      split <;> omega
    · obtain ⟨z, hz, _, _, hzp, _⟩ := was hz'
      have hdl := (List.getElem?_eq_some_iff.1 hz).1
      by_cases e1 : d = j
      · subst e1
        rw [if_pos rfl] at hzp
        rw [hzp]
        refine ⟨by simp; omega, ?_⟩
        simp only [Int.toNat_natCast]
        rw [if_neg (by rintro ⟨m, hm⟩; exact noanc m hm), if_pos ⟨0, rfl⟩]
        omega
      · rw [if_neg e1] at hzp
        rw [hzp] at hp' ⊢
        have hu := u.par d z hz hp'
        refine ⟨by simp; omega, ?_⟩
        obtain ⟨q, hq⟩ := Int.eq_ofNat_of_zero_le hp'
        rw [hq] at hu ⊢
        simp only [Int.toNat_natCast] at hu ⊢
        by_cases ha : ∃ m, climb s m i = (d : Int)
        · obtain ⟨m, hm⟩ := ha
          have e2 : climb s (m + 1) i = (q : Int) := by rw [climb_step hm]; simp [parOf, hz, hq]
          rw [if_pos ⟨m, hm⟩, if_pos ⟨m + 1, e2⟩]
          omega
        · rw [if_neg ha]
          split <;> omega
  · intro a z' hz' c hc
    obtain ⟨z, hz, _, _, _, hzk⟩ := was hz'
    rw [hzk] at hc
    by_cases e : a = i
    · subst e
      rw [if_pos rfl, mem] at hc
      rcases hc with rfl | hc
      · obtain ⟨z2, h2, hp2, _⟩ := now hy
        exact ⟨z2, h2, by rw [hp2, if_pos rfl]⟩
      · obtain ⟨z2, h2, hp2⟩ := wf.kid a x hx c hc
        obtain ⟨z3, h3, hp3, _⟩ := now h2
        refine ⟨z3, h3, ?_⟩
        rw [hp3]
        by_cases ec : c = j
        · subst ec; exact absurd hc jnot
        · rw [if_neg ec]; exact hp2
    · rw [if_neg e] at hc
      obtain ⟨z2, h2, hp2⟩ := wf.kid a z hz c hc
      obtain ⟨z3, h3, hp3, _⟩ := now h2
      refine ⟨z3, h3, ?_⟩
      rw [hp3]
      by_cases ec : c = j
      · subst ec
        rw [hy] at h2
        cases h2
        omega
      · rw [if_neg ec]; exact hp2
  · intro c z' hz'
    obtain ⟨z, hz, _, _, hzp, _⟩ := was hz'
    by_cases e1 : c = j
    · subst e1
      rw [if_pos rfl] at hzp
      obtain ⟨z2, h2, _, hk2⟩ := now hx
      rw [if_pos rfl] at hk2
      exact .inr ⟨i, z2, hzp, h2, by rw [hk2, mem]; exact .inl rfl⟩
    · rw [if_neg e1] at hzp
      rcases wf.par c z hz with hm | ⟨a, z2, h1, h2, h3⟩
      · exact .inl (by rw [hzp]; exact hm)
      · obtain ⟨z3, h4, _, hk3⟩ := now h2
        refine .inr ⟨a, z3, by rw [hzp]; exact h1, h4, ?_⟩
        rw [hk3]
        by_cases ea : a = i
        · subst ea
          rw [if_pos rfl, mem]
          rw [hx] at h2
          cases h2
          exact .inr h3
        · rw [if_neg ea]; exact h3
  · intro a z' hz'
    obtain ⟨z, hz, _, _, _, hzk⟩ := was hz'
    rw [hzk]
    by_cases e : a = i
    · rw [if_pos e]
      have hn := wf.nodup i x hx
      have e2 : x.ks = x.ks.take k ++ x.ks.drop k := (List.take_append_drop k x.ks).symm
      rw [e2, List.nodup_append] at hn
      have j1 : j ∉ x.ks.take k := fun h => jnot (List.mem_of_mem_take h)
      have j2 : j ∉ x.ks.drop k := fun h => jnot (List.mem_of_mem_drop h)
      rw [List.nodup_append, List.nodup_cons]
      refine ⟨hn.1, ⟨j2, hn.2.1⟩, fun p hp q hq => ?_⟩
      rcases List.mem_cons.1 hq with rfl | hq
      · exact fun e => j1 (e ▸ hp)
      · exact hn.2.2 p hp q hq
    · rw [if_neg e]; exact wf.nodup a z hz
  · intro z' hz'
    obtain ⟨z, hz, _, _, hzp, _⟩ := was hz'
    rw [hzp, if_neg (by omega)]
    exact wf.root z hz
  · intro a z' hz'
    obtain ⟨z, hz, hzt, hzc, _, hzk⟩ := was hz'
    rw [hzt, hzc, hzk]
    have he := wf.elem a z hz
    refine ⟨fun h => ?_, he.2⟩
    by_cases e : a = i
    · subst e
      rw [hx] at hz
      cases hz
      rw [ht] at h
      cases h
    · rw [if_neg e]; exact he.1 h
  · intro a z' hz'
    obtain ⟨z, hz, _, hzc, _, _⟩ := was hz'
    rw [hzc]
    exact wf.chars a z hz

theorem wf_remove {s : List Nd} (wf : WF s) {i j m : Nat} {x y : Nd} (hx : s[i]? = some x) (hxp : x.p = (j : Int)) (hy : s[j]? = some y) (hm : y.ks[m]? = some i) :
    i ≠ j ∧ WF ((s.set j { y with ks := y.ks.take m ++ y.ks.drop (m + 1) }).set i { x with p := -1 }) := by
  have hil := (List.getElem?_eq_some_iff.1 hx).1
  have hjl := (List.getElem?_eq_some_iff.1 hy).1
  have hml := (List.getElem?_eq_some_iff.1 hm).1
  obtain ⟨ht0, B, u⟩ := wf.up
  have hij : j ≠ i := by
    intro e
    subst e
    have := (u.par j x hx (by omega)).2
    rw [hxp] at this
    simp at this
  have hn := wf.nodup j y hy
  have split : y.ks = y.ks.take m ++ i :: y.ks.drop (m + 1) := by
    conv => lhs; rw [← List.take_append_drop m y.ks]
    rw [List.drop_eq_getElem_cons hml]
    have : y.ks[m] = i := by rw [List.getElem?_eq_getElem hml] at hm; exact Option.some.inj hm
    rw [this]
  have hn2 := hn
  rw [split, List.nodup_append, List.nodup_cons] at hn2
  have i1 : i ∉ y.ks.take m := fun h => hn2.2.2 i h i (by simp) rfl
  have mem : ∀ c, c ∈ y.ks.take m ++ y.ks.drop (m + 1) ↔ c ≠ i ∧ c ∈ y.ks := by
    intro c
    constructor
    · intro h
      rw [List.mem_append] at h
      refine ⟨?_, ?_⟩
      · rintro rfl
        rcases h with h | h
        · exact i1 h
        · exact hn2.2.1.1 h
      · rcases h with h | h
        · exact List.mem_of_mem_take h
        · exact List.mem_of_mem_drop h
    · rintro ⟨h1, h2⟩
      rw [split] at h2
      simp only [List.mem_append, List.mem_cons] at h2 ⊢
      rcases h2 with h | h | h
      · exact .inl h
      · exact absurd h h1
      · exact .inr h
  have get := set2_get hy hx hij (y.ks.take m ++ y.ks.drop (m + 1)) (-1 : Int)
  have was : ∀ {c : Nat} {z' : Nd}, ((s.set j { y with ks := y.ks.take m ++ y.ks.drop (m + 1) }).set i { x with p := -1 })[c]? = some z' → ∃ z, s[c]? = some z ∧ z'.t = z.t ∧ z'.cs = z.cs ∧ z'.p = (if c = i then (-1 : Int) else z.p) ∧ z'.ks = (if c = j then y.ks.take m ++ y.ks.drop (m + 1) else z.ks) := by
    intro c z' hz'
    rw [get c] at hz'
    obtain ⟨z, hz, rfl⟩ := Option.map_eq_some_iff.1 hz'
    refine ⟨z, hz, ?_⟩
    by_cases e1 : c = i
    · subst e1
      have e2 : ¬ c = j := fun e => hij e.symm
      simp [e2]
    · by_cases e2 : c = j
      · subst e2; simp [e1]
      · simp [e1, e2]
  have now : ∀ {c : Nat} {z : Nd}, s[c]? = some z → ∃ z', ((s.set j { y with ks := y.ks.take m ++ y.ks.drop (m + 1) }).set i { x with p := -1 })[c]? = some z' ∧ z'.p = (if c = i then (-1 : Int) else z.p) ∧ z'.ks = (if c = j then y.ks.take m ++ y.ks.drop (m + 1) else z.ks) := by
    intro c z hz
    refine ⟨_, by rw [get c, hz]; rfl, ?_⟩
    by_cases e1 : c = i
    · subst e1
      have e2 : ¬ c = j := fun e => hij e.symm
      simp [e2]
    · by_cases e2 : c = j
      · subst e2; simp [e1]
      · simp [e1, e2]
  refine ⟨fun e => hij e.symm, by simpa using wf.pos, by simpa using wf.cap, ?_, ?_, ?_, ?_, ?_, ?_, ?_⟩
  · refine ⟨ht0, B, u.le, fun d z' hz' hp' => ?_⟩
    obtain ⟨z, hz, _, _, hzp, _⟩ := was hz'
    by_cases e1 : d = i
    · rw [if_pos e1] at hzp; omega
    · rw [if_neg e1] at hzp
      rw [hzp] at hp' ⊢
      have := u.par d z hz hp'
      exact ⟨by simpa using this.1, this.2⟩
  · intro a z' hz' c hc
    obtain ⟨z, hz, _, _, _, hzk⟩ := was hz'
    rw [hzk] at hc
    have hc2 : c ∈ z.ks ∧ c ≠ i := by
      by_cases e : a = j
      · subst e
        rw [if_pos rfl, mem] at hc
        rw [hy] at hz
        cases hz
        exact ⟨hc.2, hc.1⟩
      · rw [if_neg e] at hc
        refine ⟨hc, ?_⟩
        rintro rfl
        obtain ⟨z2, h2, hp2⟩ := wf.kid a z hz c hc
        rw [hx] at h2
        cases h2
        rw [hxp] at hp2
        exact e (by omega)
    obtain ⟨z2, h2, hp2⟩ := wf.kid a z hz c hc2.1
    obtain ⟨z3, h3, hp3, _⟩ := now h2
    exact ⟨z3, h3, by rw [hp3, if_neg hc2.2]; exact hp2⟩
  · intro c z' hz'
    obtain ⟨z, hz, _, _, hzp, _⟩ := was hz'
    by_cases e1 : c = i
    · rw [if_pos e1] at hzp; exact .inl hzp
    · rw [if_neg e1] at hzp
      rcases wf.par c z hz with hmm | ⟨a, z2, h1, h2, h3⟩
      · exact .inl (by rw [hzp]; exact hmm)
      · obtain ⟨z3, h4, _, hk3⟩ := now h2
        refine .inr ⟨a, z3, by rw [hzp]; exact h1, h4, ?_⟩
        rw [hk3]
        by_cases ea : a = j
        · subst ea
          rw [if_pos rfl, mem]
          rw [hy] at h2
          cases h2
          exact ⟨e1, h3⟩
        · rw [if_neg ea]; exact h3
  · intro a z' hz'
    obtain ⟨z, hz, _, _, _, hzk⟩ := was hz'
    rw [hzk]
    by_cases e : a = j
    · rw [if_pos e, List.nodup_append]
      exact ⟨hn2.1, hn2.2.1.2, fun p hp q hq => hn2.2.2 p hp q (by simp [hq])⟩
    · rw [if_neg e]; exact wf.nodup a z hz
  · intro z' hz'
    obtain ⟨z, hz, _, _, hzp, _⟩ := was hz'
    rw [hzp]
    split
    · rfl
    · exact wf.root z hz
  · intro a z' hz'
    obtain ⟨z, hz, hzt, hzc, _, hzk⟩ := was hz'
    rw [hzt, hzc, hzk]
    have he := wf.elem a z hz
    refine ⟨fun h => ?_, he.2⟩
    have h1 := he.1 h
    by_cases e : a = j
    · subst e
      rw [hy] at hz
      cases hz
      rw [if_pos rfl, h1]; simp
    · rw [if_neg e]; exact h1
  · intro a z' hz'
    obtain ⟨z, hz, _, hzc, _, _⟩ := was hz'
    rw [hzc]
    exact wf.chars a z hz

/-- Where a node that has a parent stands. -/
theorem WF.place {s : List Nd} (wf : WF s) {i : Nat} {x : Nd} (hx : s[i]? = some x) (hp : 0 ≤ x.p) : ∃ (j m : Nat) (y : Nd), x.p = (j : Int) ∧ s[j]? = some y ∧ y.ks[m]? = some i ∧ i ∉ y.ks.take m ∧ y.ks.length ≤ 40 := by
  rcases wf.par i x hx with h | ⟨j, y, h1, h2, h3⟩
  · omega
  · obtain ⟨m, hm, he⟩ := List.getElem_of_mem h3
    have hm' : y.ks[m]? = some i := by rw [List.getElem?_eq_getElem hm, he]
    obtain ⟨ht, B, u⟩ := wf.up
    refine ⟨j, m, y, h1, h2, hm', ?_, nodup_length 40 _ (wf.nodup j y h2) (fun c hc => by have := (wf.kid_lt u h2 hc).1; have := wf.cap; omega)⟩
    intro hi
    obtain ⟨q, hq, hqe⟩ := List.getElem_of_mem hi
    rw [List.getElem_take] at hqe
    have hq' : q < m := by simp at hq; omega
    have := (List.nodup_iff_pairwise_ne.1 (wf.nodup j y h2))
    exact absurd (hqe.trans he.symm) (List.pairwise_iff_getElem.1 this q m (by omega) hm hq')

end Go.Proofs.YtabogkonklplcaaGreatDoor

/- marginref's Show. -/
namespace Go.Proofs.YtabogkonklplcaaGreatDoor
open Go.RowKit
set_option linter.unusedSimpArgs false
set_option linter.unusedVariables false

section
variable {w : World} {F : Nat → Prop} {bd bn cap : Nat} {rn : List RN} {rv : Value} {s : List Nd} {rs : List Sp}

theorem shown_any (wf : WF s) {h : Nat → Nat} {B : Nat} (u : Up s h B) : ∀ (k n : Nat), n < s.length → h n < k → ∀ w : World, RDocAt w F bd bn cap rn rv s rs →
    Calls Tryz.prog 122 #[.pointer (some ⟨bd, 0, none⟩), .int .i64 n] w fun e w' => e = .returned (.string (shownF s k n)) ∧ Below w.heap.size w w' := by
  intro k
  induction k with
  | zero => intro n _ hk; omega
  | succ k ih =>
    intro n hn hk w hD
    have hx : s[n]? = some s[n] := List.getElem?_eq_getElem hn
    generalize s[n] = x at hx
    have hsz := shown_size wf u (k + 1) n hn hk
    have hal := all_length wf (k + 1) n hn
    have h40 := wf.cap
    have hch := wf.chars n x hx
    have hkl : x.ks.length ≤ 40 := nodup_length 40 _ (wf.nodup n x hx) (fun c hc => by have := (wf.kid_lt u hx hc).1; omega)
    simp only [shownF, hx] at hsz ⊢
    cases ht : x.t with
    | true =>
      rw [if_pos rfl]
      rw [ht, if_pos rfl, ByteArray.size_append] at hsz
      exact shown_text hD n x hx ht (by omega) (by unfold lots; omega) (by unfold lots; omega)
    | false =>
      rw [if_neg (by decide)]
      rw [ht, if_neg (by decide), ByteArray.size_append] at hsz
      refine shown_elem hD n x (shownF s k) hx ht (by omega) (by unfold lots; omega) (by unfold lots; omega) (fun c hc w1 h1 => ?_)
      have := wf.kid_lt u hx hc
      exact ih c this.1 (by omega) w1 h1

set_option maxRecDepth 20000 in
set_option maxHeartbeats 1000000 in
theorem rshow_no (hD : RDocAt w F bd bn cap rn rv s rs) (n : Int) (hn : isB s n = false) :
    Calls Tryz.prog 77 #[.pointer (some ⟨bd, 0, none⟩), .int .i64 n] w fun e w' => e = .returned (.tuple #[.string ⟨#[]⟩, .agg #[.int .i64 n, .int .i64 1]]) ∧ Below w.heap.size w w' := by
  have HD := hid hD.faultAt
  clear hD
  go_enter Tryz.func77, Tryz.ntmps77
  go_wp2_with (first
    | (go_at_call 47; refine (is_at HD.out _).mono ?_; rintro e w' ⟨rfl, rfl⟩)
    | (go_at_call 48; refine (no_any _ _ _).mono ?_; rintro e w' ⟨rfl, rfl⟩))
  go_returns
  refine ⟨rfl, ?_⟩
  go_grown

set_option maxRecDepth 20000 in
set_option maxHeartbeats 1000000 in
theorem rshow_yes (wf : WF s) (hD : RDocAt w F bd bn cap rn rv s rs) (n : Nat) (hn : n < s.length) (b : ByteArray) (hb : Lim (fun k => shownF s k n) b) :
    Calls Tryz.prog 77 #[.pointer (some ⟨bd, 0, none⟩), .int .i64 n] w fun e w' => e = .returned (.tuple #[.string b, .agg #[.int .i64 0, .int .i64 0]]) ∧ Below w.heap.size w w' := by
  have hi : isB s n = true := isB_of (by omega)
  obtain ⟨h, B, u⟩ := wf.up
  have hc := shown_any (F := F) (bd := bd) (bn := bn) (cap := cap) (rn := rn) (rv := rv) (rs := rs) wf u (h n + 1) n hn (by omega) _ hD.faultAt
  rw [(shown_lim wf u (k := h n + 1) (n := n) (by omega)).unique hb] at hc
  have HC := hid hc
  have HD := hid hD.faultAt
  clear hD hc hb
  go_enter Tryz.func77, Tryz.ntmps77
  go_wp2_with (first
    | (go_at_call 47; refine (is_at HD.out _).mono ?_; rintro e w' ⟨rfl, rfl⟩)
    | (go_at_call 122
       refine HC.out.mono ?_
       rintro e w1 ⟨rfl, hb⟩
       have hq : w1.heap[w.heap.size]? = some (.cells #[.int .i64 0, .int .i64 0] 32 (0, 0)) := (hb.block w.heap.size (by simp)).trans (heap_alloc_new w _)
       have hc2 : w1.cell? ⟨w.heap.size, 0, none⟩ = some (.int .i64 0) := cell_of_heap hq 0
       have hc3 : w1.cell? ⟨w.heap.size, 1, none⟩ = some (.int .i64 0) := cell_of_heap hq 1
       have hf2 := frozen_of_heap hq 0
       have hf3 := frozen_of_heap hq 1
       have HB : Hid (Below w.heap.size w w1) := ((Below.refl _ w).alloc (Nat.le_refl _) _).trans (hb.mono (by simp))
       clear hq hb))
  refine bodyPost_ret (v := .tuple #[.string b, .agg #[.int .i64 0, .int .i64 0]]) (by simp [results, Tryz.results77, go_sem, *]) rfl ?_
  refine ⟨rfl, ?_⟩
  have hh := HB.out
  have hsz := hh.size
  go_grown
end

end Go.Proofs.YtabogkonklplcaaGreatDoor

/- marginref's fine, textFits, size, placeFits. -/
namespace Go.Proofs.YtabogkonklplcaaGreatDoor
open Go.RowKit
set_option linter.unusedSimpArgs false
set_option linter.unusedVariables false

abbrev rfltV (a y : Int) : Value := .agg #[.int .i64 a, .int .i64 y]

set_option maxHeartbeats 400000 in
theorem fine_any (a y : Int) (w : World) : Calls Tryz.prog 124 #[rfltV a y] w fun e w' => e = .returned (.bool (y == 0)) ∧ Below w.heap.size w w' := by
  go_enter Tryz.func124, Tryz.ntmps124
  go_wp2
  go_ret
  exact ⟨rfl, (Below.refl _ w).alloc (Nat.le_refl _) _⟩

section
variable {w : World} {F : Nat → Prop} {bd bn cap : Nat} {rn : List RN} {rv : Value} {s : List Nd} {rs : List Sp}

set_option maxRecDepth 20000 in
set_option maxHeartbeats 1000000 in
theorem textFits_node (hD : RDocAt w F bd bn cap rn rv s rs) (n k : Int) (hn : isB s n = false) :
    Calls Tryz.prog 123 #[.pointer (some ⟨bd, 0, none⟩), .int .i64 n, .int .i64 k] w fun e w' => e = .returned (rfltV n 1) ∧ Below w.heap.size w w' := by
  have HD := hid hD.faultAt
  clear hD
  go_enter Tryz.func123, Tryz.ntmps123
  go_wp2_with (first
    | (go_at_call 47; refine (is_at HD.out _).mono ?_; rintro e w' ⟨rfl, rfl⟩)
    | (go_at_call 48; refine (no_any _ _ _).mono ?_; rintro e w' ⟨rfl, rfl⟩))
  go_returns
  refine ⟨rfl, ?_⟩
  go_grown

set_option maxRecDepth 20000 in
set_option maxHeartbeats 1000000 in
theorem textFits_kind (hD : RDocAt w F bd bn cap rn rv s rs) (n : Nat) (k : Int) (x : Nd) (hx : s[n]? = some x) (ht : x.t = false) :
    Calls Tryz.prog 123 #[.pointer (some ⟨bd, 0, none⟩), .int .i64 n, .int .i64 k] w fun e w' => e = .returned (rfltV n 2) ∧ Below w.heap.size w w' := by
  have hi : n < s.length := (List.getElem?_eq_some_iff.1 hx).1
  have hb : isB s n = true := isB_of (by omega)
  have HD := hid hD.faultAt
  have h0 := hD.faultAt.nodesCell
  obtain ⟨r, hr, ho, c0, c1, c2, c3⟩ := hD.faultAt.look hx
  rw [ht] at c0
  clear hD c1 c2 c3 hr ho hx
  go_enter Tryz.func123, Tryz.ntmps123
  go_wp2_with (first
    | (go_at_call 47; refine (is_at HD.out _).mono ?_; rintro e w' ⟨rfl, rfl⟩)
    | (go_at_call 48; refine (no_any _ _ _).mono ?_; rintro e w' ⟨rfl, rfl⟩))
  go_returns
  refine ⟨rfl, ?_⟩
  go_grown

set_option maxRecDepth 20000 in
set_option maxHeartbeats 1000000 in
theorem textFits_index (hD : RDocAt w F bd bn cap rn rv s rs) (n : Nat) (k : Int) (x : Nd) (hx : s[n]? = some x) (ht : x.t = true) (hk : k < 0 ∨ (x.cs.length : Int) < k) :
    Calls Tryz.prog 123 #[.pointer (some ⟨bd, 0, none⟩), .int .i64 n, .int .i64 k] w fun e w' => e = .returned (rfltV n 3) ∧ Below w.heap.size w w' := by
  have hi : n < s.length := (List.getElem?_eq_some_iff.1 hx).1
  have hb : isB s n = true := isB_of (by omega)
  have HD := hid hD.faultAt
  have h0 := hD.faultAt.nodesCell
  obtain ⟨r, hr, ho, c0, c1, c2, c3⟩ := hD.faultAt.look hx
  rw [ht] at c0
  obtain ⟨sa, sc, hkv⟩ : ∃ a c, r.cv = .slice a x.cs.length c := by
    rcases row_cases ho.chars with ⟨h1, h2⟩ | ⟨g, c, h1⟩
    · exact ⟨none, 0, by rw [h1, h2]⟩
    · exact ⟨_, _, h1⟩
  rw [hkv] at c1
  clear hD c2 c3 hr ho hx hkv
  by_cases hneg : k < 0
  · clear hk c1
    go_enter Tryz.func123, Tryz.ntmps123
    go_wp2_with (first
      | (go_at_call 47; refine (is_at HD.out _).mono ?_; rintro e w' ⟨rfl, rfl⟩)
      | (go_at_call 48; refine (no_any _ _ _).mono ?_; rintro e w' ⟨rfl, rfl⟩))
    go_returns
    refine ⟨rfl, ?_⟩
    go_grown
  · have hk2 : (x.cs.length : Int) < k := by omega
    have hneg2 : decide (k < 0) = false := decide_eq_false hneg
    clear hk
    go_enter Tryz.func123, Tryz.ntmps123
    go_wp2_with (first
      | (go_at_call 47; refine (is_at HD.out _).mono ?_; rintro e w' ⟨rfl, rfl⟩)
      | (go_at_call 48; refine (no_any _ _ _).mono ?_; rintro e w' ⟨rfl, rfl⟩))
    go_returns
    refine ⟨rfl, ?_⟩
    go_grown

set_option maxRecDepth 20000 in
set_option maxHeartbeats 1000000 in
theorem textFits_ok (hD : RDocAt w F bd bn cap rn rv s rs) (n k : Nat) (x : Nd) (hx : s[n]? = some x) (ht : x.t = true) (hk : k ≤ x.cs.length) :
    Calls Tryz.prog 123 #[.pointer (some ⟨bd, 0, none⟩), .int .i64 n, .int .i64 k] w fun e w' => e = .returned (rfltV 0 0) ∧ Below w.heap.size w w' := by
  have hi : n < s.length := (List.getElem?_eq_some_iff.1 hx).1
  have hb : isB s n = true := isB_of (by omega)
  have HD := hid hD.faultAt
  have h0 := hD.faultAt.nodesCell
  obtain ⟨r, hr, ho, c0, c1, c2, c3⟩ := hD.faultAt.look hx
  rw [ht] at c0
  obtain ⟨sa, sc, hkv⟩ : ∃ a c, r.cv = .slice a x.cs.length c := by
    rcases row_cases ho.chars with ⟨h1, h2⟩ | ⟨g, c, h1⟩
    · exact ⟨none, 0, by rw [h1, h2]⟩
    · exact ⟨_, _, h1⟩
  rw [hkv] at c1
  have hk2 : ¬ (x.cs.length : Int) < (k : Int) := by omega
  have hneg2 : decide ((k : Int) < 0) = false := decide_eq_false (by omega)
  have hk3 : decide ((x.cs.length : Int) < (k : Int)) = false := decide_eq_false hk2
  clear hD c2 c3 hr ho hx hkv
  go_enter Tryz.func123, Tryz.ntmps123
  go_wp2_with (first
    | (go_at_call 47; refine (is_at HD.out _).mono ?_; rintro e w' ⟨rfl, rfl⟩)
    | (go_at_call 48; refine (no_any _ _ _).mono ?_; rintro e w' ⟨rfl, rfl⟩))
  go_returns
  refine ⟨rfl, ?_⟩
  go_grown
end

end Go.Proofs.YtabogkonklplcaaGreatDoor
