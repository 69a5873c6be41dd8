import Derived.Test.YtabogkonklplcaaGreatDoorC08

/- Plain mathematics of the trees: what is within a node (allF), that none is there twice, how long what is shown is. Nothing of the walk. -/
namespace Go.Proofs.YtabogkonklplcaaGreatDoor
open Go.RowKit
set_option linter.unusedSimpArgs false
set_option linter.unusedVariables false

def kidsOf (s : List Nd) (i : Nat) : List Nat := match s[i]? with | some x => x.ks | none => []

/-- One character: its own width, and not none. -/
def IsCh (c : ByteArray) : Prop := c.size ≠ 0 ∧ headW c = c.size

/-- The state of a document, as promises P3 to P7 make it. -/
structure WF (s : List Nd) : Prop where
  pos : 0 < s.length
  cap : s.length ≤ 40
  up : ∃ h B, Up s h B
  kid : ∀ (i : Nat) (x : Nd), s[i]? = some x → ∀ c ∈ x.ks, ∃ y, s[c]? = some y ∧ y.p = (i : Int)
  par : ∀ (c : Nat) (y : Nd), s[c]? = some y → y.p = -1 ∨ ∃ (i : Nat) (x : Nd), y.p = (i : Int) ∧ s[i]? = some x ∧ c ∈ x.ks
  nodup : ∀ (i : Nat) (x : Nd), s[i]? = some x → x.ks.Nodup
  root : ∀ x, s[0]? = some x → x.p = -1
  elem : ∀ (i : Nat) (x : Nd), s[i]? = some x → (x.t = true → x.ks = []) ∧ (x.t = false → x.cs = [])
  chars : ∀ (i : Nat) (x : Nd), s[i]? = some x → x.cs.length ≤ 30 ∧ ∀ c ∈ x.cs, IsCh c

theorem headW_le4 (t : ByteArray) : headW t ≤ 4 := by
  have h := moreF_le (byteI t 0)
  unfold headW
  simp only []
  split
  · omega
  · split <;> omega

theorem WF.kid_lt {s : List Nd} (wf : WF s) {h : Nat → Nat} {B : Nat} (u : Up s h B) {i c : Nat} {x : Nd} (hx : s[i]? = some x) (hc : c ∈ x.ks) : c < s.length ∧ h c < h i := by
  obtain ⟨y, hy, hp⟩ := wf.kid i x hx c hc
  have := u.par c y hy (by omega)
  rw [hp] at this
  exact ⟨(List.getElem?_eq_some_iff.1 hy).1, by simpa using this.2⟩

/-- A node and all within it, so many levels deep. -/
def allF (s : List Nd) : Nat → Nat → List Nat
  | 0, _ => []
  | k + 1, n => n :: (kidsOf s n).flatMap (allF s k)

theorem kidsOf_eq {s : List Nd} {i : Nat} {x : Nd} (h : s[i]? = some x) : kidsOf s i = x.ks := by simp [kidsOf, h]
theorem kidsOf_mem {s : List Nd} {i c : Nat} (h : c ∈ kidsOf s i) : ∃ x, s[i]? = some x ∧ c ∈ x.ks := by
  unfold kidsOf at h
  split at h
  · exact ⟨_, ‹_›, h⟩
  · simp at h

/-- Going up so many times. -/
def climb (s : List Nd) : Nat → Nat → Int
  | 0, d => d
  | j + 1, d => if climb s j d < 0 then -1 else parOf s (climb s j d).toNat

theorem climb_step {s : List Nd} {j d e : Nat} (h : climb s j d = (e : Int)) : climb s (j + 1) d = parOf s e := by
  have : ¬ ((e : Int) < 0) := by omega
  simp [climb, h, this]

theorem climb_add {s : List Nd} {i d e : Nat} (h : climb s i d = (e : Int)) (j : Nat) : climb s (i + j) d = climb s j e := by
  induction j with
  | zero => exact h
  | succ j ih =>
    show climb s (i + j + 1) d = climb s (j + 1) e
    simp only [climb, ih]

theorem all_climb {s : List Nd} (wf : WF s) : ∀ (k n d : Nat), d ∈ allF s k n → ∃ j, climb s j d = (n : Int) := by
  intro k
  induction k with
  | zero => intro n d h; simp [allF] at h
  | succ k ih =>
    intro n d h
    simp only [allF, List.mem_cons, List.mem_flatMap] at h
    rcases h with rfl | ⟨c, hc, hd⟩
    · exact ⟨0, rfl⟩
    · obtain ⟨j, hj⟩ := ih c d hd
      obtain ⟨x, hx, hcx⟩ := kidsOf_mem hc
      obtain ⟨y, hy, hp⟩ := wf.kid n x hx c hcx
      exact ⟨j + 1, by rw [climb_step hj]; simp [parOf, hy, hp]⟩

theorem climb_height {s : List Nd} {h : Nat → Nat} {B : Nat} (u : Up s h B) : ∀ (j d e : Nat), climb s j d = (e : Int) → h d ≤ h e ∧ (0 < j → h d < h e) := by
  intro j
  induction j with
  | zero =>
    intro d e he
    have : d = e := by simp [climb] at he; omega
    subst this
    exact ⟨Nat.le_refl _, by omega⟩
  | succ j ih =>
    intro d e he
    by_cases hneg : climb s j d < 0
    · simp [climb, hneg] at he
    · obtain ⟨m, hm⟩ := Int.eq_ofNat_of_zero_le (show 0 ≤ climb s j d by omega)
      have h1 := ih d m hm
      rw [climb_step hm] at he
      unfold parOf at he
      split at he
      · rename_i x hx
        have := (u.par m x hx (by omega)).2
        rw [he] at this
        simp at this
        exact ⟨by omega, fun _ => by omega⟩
      · omega

theorem all_head_not {s : List Nd} (wf : WF s) {h : Nat → Nat} {B : Nat} (u : Up s h B) {k n c : Nat} (hc : c ∈ kidsOf s n) : n ∉ allF s k c := by
  intro hn
  obtain ⟨j, hj⟩ := all_climb wf k c n hn
  obtain ⟨x, hx, hcx⟩ := kidsOf_mem hc
  have h1 := (climb_height u j n c hj).1
  have h2 := (wf.kid_lt u hx hcx).2
  omega

theorem all_apart {s : List Nd} (wf : WF s) {h : Nat → Nat} {B : Nat} (u : Up s h B) {k n c1 c2 d : Nat} (h1 : c1 ∈ kidsOf s n) (h2 : c2 ∈ kidsOf s n) (hd1 : d ∈ allF s k c1) (hd2 : d ∈ allF s k c2) : c1 = c2 := by
  obtain ⟨j1, hj1⟩ := all_climb wf k c1 d hd1
  obtain ⟨j2, hj2⟩ := all_climb wf k c2 d hd2
  obtain ⟨x, hx, hx1⟩ := kidsOf_mem h1
  obtain ⟨x', hx', hx2⟩ := kidsOf_mem h2
  rw [hx] at hx'
  cases hx'
  obtain ⟨y1, hy1, hp1⟩ := wf.kid n x hx c1 hx1
  obtain ⟨y2, hy2, hp2⟩ := wf.kid n x hx c2 hx2
  have key : ∀ {a b ja jb : Nat} {ya : Nd}, climb s ja d = (a : Int) → climb s jb d = (b : Int) → s[a]? = some ya → ya.p = (n : Int) → h b < h n → ja < jb → False := by
    intro a b ja jb ya ha hb hya hpa hbn hlt
    have e1 : climb s (ja + 1) d = (n : Int) := by rw [climb_step ha]; simp [parOf, hya, hpa]
    have e2 := climb_add e1 (jb - (ja + 1))
    rw [show ja + 1 + (jb - (ja + 1)) = jb by omega, hb] at e2
    have := (climb_height u _ n b e2.symm).1
    omega
  have l1 := (wf.kid_lt u hx hx1).2
  have l2 := (wf.kid_lt u hx hx2).2
  rcases Nat.lt_trichotomy j1 j2 with e | e | e
  · exact (key hj1 hj2 hy1 hp1 l2 e).elim
  · subst e; rw [hj1] at hj2; omega
  · exact (key hj2 hj1 hy2 hp2 l1 e).elim

theorem all_nodup {s : List Nd} (wf : WF s) : ∀ (k n : Nat), (allF s k n).Nodup := by
  obtain ⟨h, B, u⟩ := wf.up
  intro k
  induction k with
  | zero => intro n; simp [allF]
  | succ k ih =>
    intro n
    simp only [allF, List.nodup_cons]
    refine ⟨?_, ?_⟩
    · intro hm
      obtain ⟨c, hc, hn⟩ := List.mem_flatMap.1 hm
      exact all_head_not wf u hc hn
    · unfold List.Nodup
      rw [List.pairwise_flatMap]
      refine ⟨fun c _ => ih c, ?_⟩
      have hnd : (kidsOf s n).Nodup := by
        unfold kidsOf
        split
        · exact wf.nodup n _ ‹_›
        · simp
      refine (List.Pairwise.and_mem.1 hnd).imp ?_
      rintro a b ⟨ha, hb, hne⟩ x hx y hy e
      subst e
      exact hne (all_apart wf u ha hb hx hy)

theorem all_lt {s : List Nd} (wf : WF s) : ∀ (k n : Nat), n < s.length → ∀ d ∈ allF s k n, d < s.length := by
  intro k
  induction k with
  | zero => intro n _ d h; simp [allF] at h
  | succ k ih =>
    intro n hn d h
    simp only [allF, List.mem_cons, List.mem_flatMap] at h
    rcases h with rfl | ⟨c, hc, hd⟩
    · exact hn
    · obtain ⟨x, hx, hcx⟩ := kidsOf_mem hc
      obtain ⟨y, hy, _⟩ := wf.kid n x hx c hcx
      exact ih c (List.getElem?_eq_some_iff.1 hy).1 d hd

theorem nodup_length : ∀ (n : Nat) (l : List Nat), l.Nodup → (∀ x ∈ l, x < n) → l.length ≤ n := by
  intro n
  induction n with
  | zero =>
    intro l _ h
    cases l with
    | nil => exact Nat.le_refl _
    | cons a l => exact absurd (h a (by simp)) (by omega)
  | succ n ih =>
    intro l hl h
    by_cases hm : n ∈ l
    · have h1 := List.length_erase_of_mem hm
      have h2 := ih (l.erase n) (hl.erase n) (fun x hx => by
        have := h x (List.mem_of_mem_erase hx)
        have hne := (hl.mem_erase_iff.1 hx).1
        omega)
      have : 0 < l.length := List.length_pos_of_mem hm
      omega
    · have := ih l hl (fun x hx => by
        have h1 := h x hx
        have : x ≠ n := fun e => hm (e ▸ hx)
        omega)
      omega

theorem all_length {s : List Nd} (wf : WF s) (k n : Nat) (hn : n < s.length) : (allF s k n).length ≤ 40 :=
  Nat.le_trans (nodup_length s.length _ (all_nodup wf k n) (all_lt wf k n hn)) wf.cap

theorem text_size (l : List ByteArray) (a : ByteArray) (h : ∀ c ∈ l, c.size ≤ 4) : (l.foldl textStep a).size ≤ a.size + 5 * l.length := by
  induction l generalizing a with
  | nil => simp
  | cons c l ih =>
    have h1 := ih (textStep a c) (fun x hx => h x (by simp [hx]))
    have h2 := h c (by simp)
    have h3 : (textStep a c).size ≤ a.size + 5 := by
      have e : (⟨#[92]⟩ : ByteArray).size = 1 := rfl
      unfold textStep
      split <;> simp only [ByteArray.size_append] <;> omega
    simp only [List.foldl_cons, List.length_cons]
    omega

theorem elem_size (f : Nat → ByteArray) (g : Nat → Nat) (l : List Nat) (a : ByteArray) (h : ∀ c ∈ l, (f c).size + 1 ≤ 400 * g c) : (l.foldl (elemStep f) a).size ≤ a.size + 400 * (l.map g).sum := by
  induction l generalizing a with
  | nil => simp
  | cons c l ih =>
    have h1 := ih (elemStep f a c) (fun x hx => h x (by simp [hx]))
    have h2 := h c (by simp)
    have h3 : (elemStep f a c).size = a.size + 1 + (f c).size := by
      have e : (⟨#[32]⟩ : ByteArray).size = 1 := rfl
      unfold elemStep
      simp only [ByteArray.size_append]; omega
    simp only [List.foldl_cons, List.map_cons, List.sum_cons]
    omega

/-- What is shown of a node is short. -/
theorem shown_size {s : List Nd} (wf : WF s) {h : Nat → Nat} {B : Nat} (u : Up s h B) : ∀ (k n : Nat), n < s.length → h n < k → (shownF s k n).size + 1 ≤ 400 * (allF s k n).length := by
  intro k
  induction k with
  | zero => intro n _ h; omega
  | succ k ih =>
    intro n hn hk
    have hx : s[n]? = some s[n] := List.getElem?_eq_getElem hn
    generalize s[n] = x at hx
    have hd := digB_size n
    have e1 : (⟨#[39]⟩ : ByteArray).size = 1 := rfl
    have e2 : (⟨#[60]⟩ : ByteArray).size = 1 := rfl
    have e3 : (⟨#[62]⟩ : ByteArray).size = 1 := rfl
    simp only [shownF, hx, allF, List.length_cons, List.length_flatMap]
    split
    · have h1 := text_size x.cs (digB n ++ ⟨#[39]⟩) (fun c hc => by have := (wf.chars n x hx).2 c hc; rw [← this.2]; exact headW_le4 c)
      have h2 := (wf.chars n x hx).1
      simp only [ByteArray.size_append] at h1 ⊢
      omega
    · have h1 := elem_size (shownF s k) (fun c => (allF s k c).length) x.ks (⟨#[60]⟩ ++ digB n) (fun c hc => by
        have := wf.kid_lt u hx hc
        exact ih c this.1 (by omega))
      rw [kidsOf_eq hx]
      simp only [ByteArray.size_append] at h1 ⊢
      omega

theorem foldl_same {α β : Type} (f g : α → β → α) (l : List β) (a : α) (h : ∀ x ∈ l, ∀ a, f a x = g a x) : l.foldl f a = l.foldl g a := by
  induction l generalizing a with
  | nil => rfl
  | cons c l ih =>
    simp only [List.foldl_cons]
    rw [h c (by simp) a]
    exact ih _ (fun x hx => h x (by simp [hx]))

theorem shown_stable {s : List Nd} (wf : WF s) {h : Nat → Nat} {B : Nat} (u : Up s h B) : ∀ (k k' n : Nat), h n < k → h n < k' → shownF s k n = shownF s k' n := by
  intro k
  induction k with
  | zero => intro k' n hk _; omega
  | succ k ih =>
    intro k' n hk hk'
    obtain ⟨j, rfl⟩ : ∃ j, k' = j + 1 := ⟨k' - 1, by omega⟩
    simp only [shownF]
    split
    · rfl
    · rename_i x hx
      split
      · rfl
      · congr 1
        refine foldl_same _ _ _ _ (fun c hc a => ?_)
        have := (wf.kid_lt u hx hc).2
        unfold elemStep
        rw [ih j c (by omega) (by omega)]

theorem shown_lim {s : List Nd} (wf : WF s) {h : Nat → Nat} {B : Nat} (u : Up s h B) {k n : Nat} (hk : h n < k) : Lim (fun c => shownF s c n) (shownF s k n) :=
  ⟨h n + 1, fun c hc => shown_stable wf u c k n (by omega) hk⟩

theorem all_stable {s : List Nd} (wf : WF s) {h : Nat → Nat} {B : Nat} (u : Up s h B) : ∀ (k k' n : Nat), h n < k → h n < k' → allF s k n = allF s k' n := by
  intro k
  induction k with
  | zero => intro k' n hk _; omega
  | succ k ih =>
    intro k' n hk hk'
    obtain ⟨j, rfl⟩ : ∃ j, k' = j + 1 := ⟨k' - 1, by omega⟩
    simp only [allF]
    congr 1
    rw [List.flatMap_def, List.flatMap_def]
    congr 1
    refine List.map_congr_left (fun c hc => ?_)
    obtain ⟨x, hx, hcx⟩ := kidsOf_mem hc
    have := (wf.kid_lt u hx hcx).2
    exact ih j c (by omega) (by omega)

end Go.Proofs.YtabogkonklplcaaGreatDoor
