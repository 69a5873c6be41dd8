import Derived.Test.YtabogkonklplcaaGreatDoorV33
import Derived.Test.YtabogkonklplcaaGreatDoorV15
import Derived.Test.YtabogkonklplcaaGreatDoorV22
import Derived.Test.YtabogkonklplcaaGreatDoorV12
import Derived.Test.YtabogkonklplcaaGreatDoorV09
import Derived.Test.YtabogkonklplcaaGreatDoorV34

namespace Go.Proofs.YtabogkonklplcaaGreatDoor
open Go.RowKit Go.Lib
set_option linter.unusedSimpArgs false
set_option linter.unusedVariables false
def NewR (s : List Nd) (nd : Nd) (n : Int) (a y : Int) (s' : List Nd) (f : Mvf) : Prop :=
  f = compF [] ∧ ((y ≠ 0 ∧ s' = s) ∨ (y = 0 ∧ n = (s.length : Int) ∧ s.length < 40 ∧ s' = s ++ [nd]))
theorem pans_element (s : List Nd) (wf : WF s) (rs : List Sp) : ∃ n : Int, AnsP s rs 52 [] (fun v => .tuple #[.int .i64 n, v]) (NewR s rootNd n) := by
  by_cases h40 : s.length < 40
  · have wf' := wf_push wf h40 rootNd rfl rfl (fun _ => rfl) ⟨by decide, fun c hc => by cases hc⟩
    refine ⟨s.length, 0, 0, s ++ [rootNd], compF [], wf', ⟨rfl, .inr ⟨rfl, rfl, h40, rfl⟩⟩, fun V hV z hz => by rw [compF_nil]; exact hV.push rootNd wf wf' rfl hz, ?_⟩
    intro w F bx hg hP
    rw [map_nil']
    exact melement_of hg hP (errOf_nil 0) (fun F' bf h => telement_some h h40)
  · refine ⟨0, AnsP.no wf 0 7 ⟨rfl, .inl ⟨by decide, rfl⟩⟩ ?_⟩
    intro w F bx hg hP
    exact melement_of hg hP (errOf_P 0 7 (by decide)) (fun F' bf h => telement_full h (by omega))
theorem pans_text (s : List Nd) (wf : WF s) (rs : List Sp) (t : ByteArray) (ht : t.size < lots) (l : List ByteArray) (hl : Takes t l) : ∃ n : Int, AnsP s rs 53 [.string t] (fun v => .tuple #[.int .i64 n, v]) (NewR s ⟨true, l, [], -1⟩ n) := by
  by_cases h40 : s.length < 40
  · have wf' := wf_push wf h40 ⟨true, l, [], -1⟩ rfl rfl (fun h => by cases h) ⟨hl.2, charsOf_isCh t.size t l (Nat.le_refl _) hl.1⟩
    refine ⟨s.length, 0, 0, s ++ [⟨true, l, [], -1⟩], compF [], wf', ⟨rfl, .inr ⟨rfl, rfl, h40, rfl⟩⟩, fun V hV z hz => by rw [compF_nil]; exact hV.push _ wf wf' rfl hz, ?_⟩
    intro w F bx hg hP
    rw [map_nil']
    exact mtext_of hg hP t (errOf_nil 0) (fun F' bf h => ttext_some h hg.2 t ht l hl h40)
  · refine ⟨0, AnsP.no wf 0 7 ⟨rfl, .inl ⟨by decide, rfl⟩⟩ ?_⟩
    intro w F bx hg hP
    exact mtext_of hg hP t (errOf_P 0 7 (by decide)) (fun F' bf h => ttext_full h hg.2 t ht l hl (by omega))
def RemR (s : List Nd) (A : Int) (a y : Int) (s' : List Nd) (f : Mvf) : Prop :=
  (y ≠ 0 ∧ s' = s ∧ f = compF []) ∨ (y = 0 ∧ ∃ i : Nat, A = (i : Int) ∧ Chg s (i, none) s' f)
theorem pans_remove (s : List Nd) (wf : WF s) (rs : List Sp) (h6 : rs.length ≤ 6) (hrs : ∀ z ∈ rs, SpOk s z) (A : Int) : AnsP s rs 60 [.int .i64 A] (fun v => v) (RemR s A) := by
  have hcap := wf.cap
  cases hA : isB s A with
  | false =>
    refine AnsP.no wf A 1 (.inl ⟨by decide, rfl, rfl⟩) ?_
    intro w F bx hg hP
    exact mremove_no hg hP A (errOf_P A 1 (by decide)) (fun F' bf h => tremove_node h A hA)
  | true =>
    obtain ⟨h1, h2⟩ := isB_true hA
    obtain ⟨i, rfl⟩ : ∃ i : Nat, A = (i : Int) := ⟨A.toNat, by omega⟩
    have hi : i < s.length := by omega
    obtain ⟨x, hx⟩ : ∃ x, s[i]? = some x := ⟨_, List.getElem?_eq_getElem hi⟩
    by_cases hp : 0 ≤ x.p
    · obtain ⟨j, m, y, hj, hy, hm, hno, hyl⟩ := wf.place hx hp
      obtain ⟨hij, hwf⟩ := wf_remove wf hx hj hy hm
      obtain ⟨hh2, HH2, u2⟩ := hwf.up
      have hcg := Chg.rem hx hj hy hm hno hij hwf u2
      refine ⟨0, 0, _, _, hwf, .inr ⟨rfl, i, rfl, hcg⟩, fun V hV z hz => hcg.lives hV wf hz, ?_⟩
      intro w F bx hg hP
      exact mremove_go hg hP (Small.of wf hrs) h6 i (fun F' bf h => tremove_done h i j m x y hx hj hy hm hno hij (by unfold lots; omega) (by unfold lots; omega) hwf u2)
    · have hp1 : x.p = -1 := by
        rcases wf.par i x hx with h | ⟨j, y, h, _⟩
        · exact h
        · omega
      refine AnsP.no wf i 4 (.inl ⟨by decide, rfl, rfl⟩) ?_
      intro w F bx hg hP
      exact mremove_no hg hP i (errOf_P i 4 (by decide)) (fun F' bf h => tremove_none h i x hx hp1 (by unfold lots; omega))
end Go.Proofs.YtabogkonklplcaaGreatDoor

namespace Go.Proofs.YtabogkonklplcaaGreatDoor
open Go.RowKit Go.Lib
set_option linter.unusedSimpArgs false
set_option linter.unusedVariables false
def FnsAt (w : World) (C : Nat → Prop) (bf : Nat) (acts : List Dact) (cvs : List Value) : Prop := cvs.length = acts.length ∧ ∀ (i : Nat) (a : Dact) (v : Value), acts[i]? = some a → cvs[i]? = some v → FnAt w C bf a v
theorem FnsAt.keeps {w W : World} {C : Nat → Prop} {bf : Nat} {acts : List Dact} {cvs : List Value} {G : Nat → Prop} (h : FnsAt w C bf acts cvs) (hk : Keeps G w W) (hG : ∀ b, C b → ¬ G b) : FnsAt W C bf acts cvs :=
  ⟨h.1, fun i a v h1 h2 => (h.2 i a v h1 h2).keeps hk hG⟩
theorem FnsAt.wider {w : World} {C C' : Nat → Prop} {bf : Nat} {acts : List Dact} {cvs : List Value} (h : FnsAt w C bf acts cvs) (hC : ∀ b, C b → C' b) : FnsAt w C' bf acts cvs :=
  ⟨h.1, fun i a v h1 h2 => (h.2 i a v h1 h2).wider hC⟩
theorem FnsAt.nil (w : World) (C : Nat → Prop) (bf : Nat) : FnsAt w C bf [] [] := ⟨rfl, fun i a v h => by simp at h⟩
theorem FnsAt.snoc {w : World} {C : Nat → Prop} {bf : Nat} {acts : List Dact} {cvs : List Value} {a : Dact} {v : Value} (h : FnsAt w C bf acts cvs) (hv : FnAt w C bf a v) : FnsAt w C bf (acts ++ [a]) (cvs ++ [v]) := by
  refine ⟨by simp [h.1], fun i a' v' h1 h2 => ?_⟩
  by_cases hi : i < acts.length
  · rw [List.getElem?_append_left hi] at h1
    rw [List.getElem?_append_left (by rw [h.1]; exact hi)] at h2
    exact h.2 i a' v' h1 h2
  · rw [List.getElem?_append_right (by omega)] at h1
    rw [List.getElem?_append_right (by rw [h.1]; omega), h.1] at h2
    obtain ⟨k, hk⟩ : ∃ k, k = i - acts.length := ⟨_, rfl⟩
    rw [← hk] at h1 h2
    cases k with
    | zero => simp at h1 h2; subst h1; subst h2; exact hv
    | succ k => simp at h1
theorem cut_fn (w : World) (bf n o e : Nat) : FnAt ((((w.alloc (.cells #[ptr bf] 91)).alloc (.cells #[.int .i64 (n : Int)] 3)).alloc (.cells #[.int .i64 (o : Int)] 3)).alloc (.cells #[.int .i64 (e : Int)] 3)) (fun b => w.heap.size ≤ b ∧ b < w.heap.size + 4) bf (n, some (o, e))
    (.func (.func 198) #[] #[ptr w.heap.size, ptr (w.heap.size + 1), ptr (w.heap.size + 2), ptr (w.heap.size + 3)]) := by
  have x0 : ((((w.alloc (.cells #[ptr bf] 91)).alloc (.cells #[.int .i64 (n : Int)] 3)).alloc (.cells #[.int .i64 (o : Int)] 3)).alloc (.cells #[.int .i64 (e : Int)] 3)).heap[w.heap.size]? = some (.cells #[ptr bf] 91 (0, 0)) := by
    rw [Below.heap_alloc _ _ _ (by simp; omega), Below.heap_alloc _ _ _ (by simp; omega), Below.heap_alloc _ _ _ (by simp)]
    exact heap_alloc_new w _
  have x1 : ((((w.alloc (.cells #[ptr bf] 91)).alloc (.cells #[.int .i64 (n : Int)] 3)).alloc (.cells #[.int .i64 (o : Int)] 3)).alloc (.cells #[.int .i64 (e : Int)] 3)).heap[w.heap.size + 1]? = some (.cells #[.int .i64 (n : Int)] 3 (0, 0)) := by
    rw [Below.heap_alloc _ _ _ (by simp), Below.heap_alloc _ _ _ (by simp)]
    have := heap_alloc_new (w.alloc (.cells #[ptr bf] 91)) (.cells #[.int .i64 (n : Int)] 3)
    rwa [World.size_alloc] at this
  have x2 : ((((w.alloc (.cells #[ptr bf] 91)).alloc (.cells #[.int .i64 (n : Int)] 3)).alloc (.cells #[.int .i64 (o : Int)] 3)).alloc (.cells #[.int .i64 (e : Int)] 3)).heap[w.heap.size + 2]? = some (.cells #[.int .i64 (o : Int)] 3 (0, 0)) := by
    rw [Below.heap_alloc _ _ _ (by simp)]
    have := heap_alloc_new ((w.alloc (.cells #[ptr bf] 91)).alloc (.cells #[.int .i64 (n : Int)] 3)) (.cells #[.int .i64 (o : Int)] 3)
    rwa [World.size_alloc, World.size_alloc] at this
  have x3 : ((((w.alloc (.cells #[ptr bf] 91)).alloc (.cells #[.int .i64 (n : Int)] 3)).alloc (.cells #[.int .i64 (o : Int)] 3)).alloc (.cells #[.int .i64 (e : Int)] 3)).heap[w.heap.size + 3]? = some (.cells #[.int .i64 (e : Int)] 3 (0, 0)) := by
    have := heap_alloc_new (((w.alloc (.cells #[ptr bf] 91)).alloc (.cells #[.int .i64 (n : Int)] 3)).alloc (.cells #[.int .i64 (o : Int)] 3)) (.cells #[.int .i64 (e : Int)] 3)
    rwa [World.size_alloc, World.size_alloc, World.size_alloc] at this
  exact ⟨_, _, _, _, rfl, cell_of_heap x0 0, cell_of_heap x1 0, cell_of_heap x2 0, cell_of_heap x3 0, ⟨by omega, by omega⟩, ⟨by omega, by omega⟩, ⟨by omega, by omega⟩, ⟨by omega, by omega⟩⟩
theorem Tryz.info237 : (Tryz.prog.info? 237).map (fun i => (i.zero, i.size, i.bytes)) = some (some .nilFunc, 1, 8) := by kernel_rfl
theorem Tryz.info110 : (Tryz.prog.info? 110).map (fun i => (i.zero, i.size, i.bytes)) = some (some .nilFunc, 1, 8) := by kernel_rfl
end Go.Proofs.YtabogkonklplcaaGreatDoor
