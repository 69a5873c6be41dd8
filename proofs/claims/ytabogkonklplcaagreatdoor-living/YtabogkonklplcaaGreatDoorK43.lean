import Derived.Test.YtabogkonklplcaaGreatDoorK27
import Derived.Test.YtabogkonklplcaaGreatDoorK29
import Derived.Test.YtabogkonklplcaaGreatDoorK31
import Derived.Test.YtabogkonklplcaaGreatDoorK28
import Derived.Test.YtabogkonklplcaaGreatDoorK14
import Derived.Test.YtabogkonklplcaaGreatDoorK18
import Derived.Test.YtabogkonklplcaaGreatDoorK26
import Derived.BigQuiet
import Derived.Stop.RegionWithIn
import Derived.Deep.RegionHeld3
import Derived.Test.YtabogkonklplcaaGreatDoorK20

namespace Go.Proofs.YtabogkonklplcaaGreatDoor
open Go.RowKit
set_option linter.unusedSimpArgs false
set_option linter.unusedVariables false
theorem lexN_pre : ∀ (p x y : List Nat), lexN (p ++ x) (p ++ y) → lexN x y
  | [], _, _, h => h
  | _ :: p, x, y, h => by
    rcases lexN_cons h with h | ⟨_, h⟩
    · omega
    · exact lexN_pre p x y h
theorem spIs_le {s : List Nd} (wf : WF s) {a b d : Nat} (h : SpIs s ⟨a, b, a, d⟩) : b ≤ d := by
  obtain ⟨n, k, n2, k2, t, l, l2, e, _, _, ht, w1, w2, hle⟩ := h
  simp only [Sp.mk.injEq, Int.natCast_inj] at e
  obtain ⟨rfl, rfl, rfl, rfl⟩ := e
  obtain rfl := w1.only wf ht.2 w2
  rcases hle with h | h
  · unfold pw at h
    have := List.append_cancel_left h
    simp at this
    omega
  · have h1 := lexN_pre _ _ _ h
    rcases lexN_cons h1 with h | ⟨_, h⟩
    · omega
    · exact (lexN_nil h).elim
theorem delActs_len {s : List Nd} (wf : WF s) {B a b c d t : Nat} (ht : t < s.length) : (delActs s B a b c d t).length ≤ 50 := by
  have h1 := leave_len s (plF s (B + 1) t) a b c d (allF s (B + 1) t)
  have h2 := all_length wf (B + 1) t ht
  have h3 : ∀ n o e, (endAct s n o e).length ≤ 1 := fun n o e => by unfold endAct; split <;> simp
  have h4 := h3 a b (csOf s a).length
  have h5 := h3 c 0 d
  unfold delActs
  simp only [List.length_append, List.length_map]
  omega
theorem kid_one {s : List Nd} (wf : WF s) {p m m' i j : Nat} {y yj x : Nd} (hy : s[p]? = some y) (hm' : y.ks[m']? = some i) (hx : s[i]? = some x) (hj : x.p = (j : Int)) (hyj : s[j]? = some yj) (hm : yj.ks[m]? = some i) (hno : i ∉ yj.ks.take m) : j = p ∧ m ≤ m' := by
  obtain ⟨x2, hx2, hp2⟩ := wf.kid p y hy i (List.mem_of_getElem? hm')
  rw [hx] at hx2
  cases hx2
  have e : j = p := by omega
  subst e
  rw [hy] at hyj
  cases hyj
  refine ⟨rfl, ?_⟩
  rcases Nat.lt_or_ge m' m with h | h
  · exact absurd (mem_take_of hm' h) hno
  · exact h
theorem firsts_stay {s : List Nd} (wf : WF s) {L : List (Nat × Nat)} {ns : List Nat} {a b c d p k : Nat} {y : Nd} (hy : s[p]? = some y) (hk : ∀ m n, y.ks[m]? = some n → cov L a b c d p m = true → k ≤ m) : ∀ i ∈ leaveF s L a b c d ns, i ∉ y.ks.take k := by
  intro i hi hm
  obtain ⟨x, yj, j, m, hx, hj, hyj, hmm, hno, hcov⟩ := leave_mem wf hi
  obtain ⟨m', hm', he⟩ := List.getElem_of_mem hm
  rw [List.getElem_take] at he
  have hlt : m' < k ∧ m' < y.ks.length := by rw [List.length_take] at hm'; omega
  have hm2 : y.ks[m']? = some i := by rw [List.getElem?_eq_getElem hlt.2, he]
  obtain ⟨rfl, hle⟩ := kid_one wf hy hm2 hx hj hyj hmm hno
  rw [hy] at hyj
  cases hyj
  have := hk m i hmm hcov
  omega
end Go.Proofs.YtabogkonklplcaaGreatDoor

namespace Go.Proofs.YtabogkonklplcaaGreatDoor
open Go.RowKit Go.Lib
set_option linter.unusedSimpArgs false
set_option linter.unusedVariables false
def FnsAt (w : World) (C : Nat → Prop) (bf : Nat) (acts : List Dact) (cvs : List Value) : Prop := cvs.length = acts.length ∧ ∀ (i : Nat) (a : Dact) (v : Value), acts[i]? = some a → cvs[i]? = some v → FnAt w C bf a v
theorem FnsAt.keeps {w W : World} {C : Nat → Prop} {bf : Nat} {acts : List Dact} {cvs : List Value} {G : Nat → Prop} (h : FnsAt w C bf acts cvs) (hk : Keeps G w W) (hG : ∀ b, C b → ¬ G b) : FnsAt W C bf acts cvs :=
  ⟨h.1, fun i a v h1 h2 => (h.2 i a v h1 h2).keeps hk hG⟩
theorem FnsAt.wider {w : World} {C C' : Nat → Prop} {bf : Nat} {acts : List Dact} {cvs : List Value} (h : FnsAt w C bf acts cvs) (hC : ∀ b, C b → C' b) : FnsAt w C' bf acts cvs :=
  ⟨h.1, fun i a v h1 h2 => (h.2 i a v h1 h2).wider hC⟩
theorem FnsAt.nil (w : World) (C : Nat → Prop) (bf : Nat) : FnsAt w C bf [] [] := ⟨rfl, fun i a v h => by simp at h⟩
theorem FnsAt.snoc {w : World} {C : Nat → Prop} {bf : Nat} {acts : List Dact} {cvs : List Value} {a : Dact} {v : Value} (h : FnsAt w C bf acts cvs) (hv : FnAt w C bf a v) : FnsAt w C bf (acts ++ [a]) (cvs ++ [v]) := by
  refine ⟨by simp [h.1], fun i a' v' h1 h2 => ?_⟩
  by_cases hi : i < acts.length
  · rw [List.getElem?_append_left hi] at h1
    rw [List.getElem?_append_left (by rw [h.1]; exact hi)] at h2
    exact h.2 i a' v' h1 h2
  · rw [List.getElem?_append_right (by omega)] at h1
    rw [List.getElem?_append_right (by rw [h.1]; omega), h.1] at h2
    obtain ⟨k, hk⟩ : ∃ k, k = i - acts.length := ⟨_, rfl⟩
    rw [← hk] at h1 h2
    cases k with
    | zero => simp at h1 h2; subst h1; subst h2; exact hv
    | succ k => simp at h1
theorem cut_fn (w : World) (bf n o e : Nat) : FnAt ((((w.alloc (.cells #[ptr bf] 91)).alloc (.cells #[.int .i64 (n : Int)] 3)).alloc (.cells #[.int .i64 (o : Int)] 3)).alloc (.cells #[.int .i64 (e : Int)] 3)) (fun b => w.heap.size ≤ b ∧ b < w.heap.size + 4) bf (n, some (o, e))
    (.func (.func 198) #[] #[ptr w.heap.size, ptr (w.heap.size + 1), ptr (w.heap.size + 2), ptr (w.heap.size + 3)]) := by
  have x0 : ((((w.alloc (.cells #[ptr bf] 91)).alloc (.cells #[.int .i64 (n : Int)] 3)).alloc (.cells #[.int .i64 (o : Int)] 3)).alloc (.cells #[.int .i64 (e : Int)] 3)).heap[w.heap.size]? = some (.cells #[ptr bf] 91 (0, 0)) := by
    rw [Below.heap_alloc _ _ _ (by simp; omega), Below.heap_alloc _ _ _ (by simp; omega), Below.heap_alloc _ _ _ (by simp)]
    exact heap_alloc_new w _
  have x1 : ((((w.alloc (.cells #[ptr bf] 91)).alloc (.cells #[.int .i64 (n : Int)] 3)).alloc (.cells #[.int .i64 (o : Int)] 3)).alloc (.cells #[.int .i64 (e : Int)] 3)).heap[w.heap.size + 1]? = some (.cells #[.int .i64 (n : Int)] 3 (0, 0)) := by
    rw [Below.heap_alloc _ _ _ (by simp), Below.heap_alloc _ _ _ (by simp)]
    have := heap_alloc_new (w.alloc (.cells #[ptr bf] 91)) (.cells #[.int .i64 (n : Int)] 3)
    rwa [World.size_alloc] at this
  have x2 : ((((w.alloc (.cells #[ptr bf] 91)).alloc (.cells #[.int .i64 (n : Int)] 3)).alloc (.cells #[.int .i64 (o : Int)] 3)).alloc (.cells #[.int .i64 (e : Int)] 3)).heap[w.heap.size + 2]? = some (.cells #[.int .i64 (o : Int)] 3 (0, 0)) := by
    rw [Below.heap_alloc _ _ _ (by simp)]
    have := heap_alloc_new ((w.alloc (.cells #[ptr bf] 91)).alloc (.cells #[.int .i64 (n : Int)] 3)) (.cells #[.int .i64 (o : Int)] 3)
    rwa [World.size_alloc, World.size_alloc] at this
  have x3 : ((((w.alloc (.cells #[ptr bf] 91)).alloc (.cells #[.int .i64 (n : Int)] 3)).alloc (.cells #[.int .i64 (o : Int)] 3)).alloc (.cells #[.int .i64 (e : Int)] 3)).heap[w.heap.size + 3]? = some (.cells #[.int .i64 (e : Int)] 3 (0, 0)) := by
    have := heap_alloc_new (((w.alloc (.cells #[ptr bf] 91)).alloc (.cells #[.int .i64 (n : Int)] 3)).alloc (.cells #[.int .i64 (o : Int)] 3)) (.cells #[.int .i64 (e : Int)] 3)
    rwa [World.size_alloc, World.size_alloc, World.size_alloc] at this
  exact ⟨_, _, _, _, rfl, cell_of_heap x0 0, cell_of_heap x1 0, cell_of_heap x2 0, cell_of_heap x3 0, ⟨by omega, by omega⟩, ⟨by omega, by omega⟩, ⟨by omega, by omega⟩, ⟨by omega, by omega⟩⟩
theorem Tryz.info237 : (Tryz.prog.info? 237).map (fun i => (i.zero, i.size, i.bytes)) = some (some .nilFunc, 1, 8) := by kernel_rfl
theorem Tryz.info110 : (Tryz.prog.info? 110).map (fun i => (i.zero, i.size, i.bytes)) = some (some .nilFunc, 1, 8) := by kernel_rfl
end Go.Proofs.YtabogkonklplcaaGreatDoor

namespace Go.Proofs.YtabogkonklplcaaGreatDoor
open Go.RowKit Go.Shelf
set_option linter.unusedSimpArgs false
set_option linter.unusedVariables false
attribute [local go_sem] Oper.semAt_some
set_option maxRecDepth 20000 in
set_option maxHeartbeats 1000000 in
theorem in1_any {s : List Nd} (wf : WF s) {h : Nat → Nat} {B : Nat} (u : Up s h B) {F : Nat → Prop} {bf bn cap : Nat} {pn : List PN} {w : World} (hD : PForAt w F bf bn cap pn s) (a b c d t n x0 x1 : Nat) (ha : a < s.length) (hc : c < s.length) (hn : n < s.length) (ta : IsTop s a t) (tc : IsTop s c t) (tn : IsTop s n t) (hb : b ≤ sizeAt s a) (hd : d ≤ sizeAt s c)
    (h0 : w.cell? ⟨x0, 0, none⟩ = some (ptr bf)) (h1 : w.heap[x1]? = some (.cells #[.int .i64 (a : Int), .int .i64 (b : Int), .int .i64 (c : Int), .int .i64 (d : Int)] 79 (0, 0))) :
    Calls Tryz.prog 199 #[.int .i64 (n : Int), ptr x0, ptr x1] w fun e w' => e = .returned (.bool (insB s (plF s (B + 1) t) a b c d n)) ∧ Below w.heap.size w w' := by
  have hcap := wf.cap
  have l0 := World.block_lt_of_cell? w _ h0
  have l1 := heap_lt h1
  obtain ⟨x, hx⟩ : ∃ x, s[n]? = some x := ⟨_, List.getElem?_eq_getElem hn⟩
  have n0 := hD.nodesCell
  have hlt := hD.lt
  obtain ⟨r, hr, ho, d0, d1, d2, d3⟩ := hD.look hx
  have hnI : (n : Int) < (s.length : Int) := by omega
  by_cases hp : 0 ≤ x.p
  · obtain ⟨j, m, y, hj, hy, hm, hno, hyl⟩ := wf.place hx hp
    have hjl : j < s.length := (List.getElem?_eq_some_iff.1 hy).1
    have CA := hid (fun W (hB : Below w.heap.size w W) => tahead_at (hD.below hB) n j m x y hx hj hy hm hno (by unfold lots; omega) (by unfold lots; omega))
    have CC := hid (fun W (hB : Below w.heap.size w W) => tcovers_any wf u (hD.below hB) a b c d j m t ha hc hjl ta tc (tn.par hx hj) hb hd (kid_size wf hy hm).2)
    rw [← insB_at hx hj hy hm hno] at CC
    rw [hj] at d0
    have hneg : ((j : Int) == -1) = false := by simp
    have c0 := cell_of_heap h1 0
    have c1 := cell_of_heap h1 1
    have c2 := cell_of_heap h1 2
    have c3 := cell_of_heap h1 3
    have HX1 := hid h1
    generalize insB s (plF s (B + 1) t) a b c d n = q at *
    clear hD d1 d2 d3 hr ho hx hy hm hno h1 wf u ta tc tn hj
    have KEEP := hid (fun W (hB : Below w.heap.size w W) => And.intro ((hB.cell (p := ⟨x0, 0, none⟩) l0).trans h0) (And.intro ((hB.cell (p := ⟨bf, 0, none⟩) hlt.1).trans n0) (And.intro ((hB.cell (p := ⟨bn, n * 4, none⟩) hlt.2).trans d0) (And.intro ((hB.cell (p := ⟨x1, 0, none⟩) l1).trans c0) (And.intro ((hB.cell (p := ⟨x1, 1, none⟩) l1).trans c1) (And.intro ((hB.cell (p := ⟨x1, 2, none⟩) l1).trans c2) ((hB.cell (p := ⟨x1, 3, none⟩) l1).trans c3)))))))
    go_enter Tryz.func199, Tryz.ntmps199
    go_wp2
    go_region_held3 (fun w' => w'.cell? ⟨x0, 0, none⟩ = some (ptr bf) ∧ w'.cell? ⟨bf, 0, none⟩ = some (.slice (some ⟨bn, 0, none⟩) s.length cap) ∧ w'.cell? ⟨bn, n * 4, none⟩ = some (.int .i64 (j : Int)) ∧ w'.cell? ⟨x1, 0, none⟩ = some (.int .i64 (a : Int)) ∧ w'.cell? ⟨x1, 1, none⟩ = some (.int .i64 (b : Int)) ∧ w'.cell? ⟨x1, 2, none⟩ = some (.int .i64 (c : Int)) ∧ w'.cell? ⟨x1, 3, none⟩ = some (.int .i64 (d : Int))) (first | exact KP2.out | exact KP1.out | go_keep) (first
      | (go_at_call 159
         refine (CC.out _ ?_).mono ?_
         · first | exact HB1.out | exact HB1.out.drew | exact below_drewN HB1.out _
         rintro e w2 ⟨rfl, hb2⟩
         have HB2 := hid (show Below w.heap.size w w2 from ⟨hb2.os.trans HB1.out.os, hb2.tape.trans HB1.out.tape, hb2.output.trans HB1.out.output, Nat.le_trans HB1.out.size hb2.size, fun k hk => (hb2.block k (Nat.lt_of_lt_of_le hk HB1.out.size)).trans (HB1.out.block k hk)⟩)
         have KP2 := hid (KEEP.out _ HB2.out)
         clear hb2)
      | (go_at_call 149
         refine (CA.out _ ?_).mono ?_
         · first | exact below_draw _ _ | exact (Below.refl _ w).drew | exact Below.refl _ w
         clear CA
         rintro e w1 ⟨rfl, hb1⟩
         have HB1 := hid (show Below w.heap.size w w1 from ⟨hb1.os, hb1.tape, hb1.output, hb1.size, hb1.block⟩)
         have KP1 := hid (KEEP.out _ HB1.out)
         clear hb1))
    all_goals
      go_wp2
      go_ret
      exact ⟨rfl, HB2.out⟩
  · have hp1 : x.p = -1 := by
      rcases wf.par n x hx with h | ⟨j, y, h, _⟩
      · exact h
      · omega
    rw [insB_top hx (by omega)]
    rw [hp1] at d0
    clear hD d1 d2 d3 hr ho hx wf u ta tc tn
    go_enter Tryz.func199, Tryz.ntmps199
    go_wp2
    go_quiet (fail)
    go_wp2
    go_ret
    exact ⟨rfl, below_draw _ _⟩
end Go.Proofs.YtabogkonklplcaaGreatDoor

namespace Go.Proofs.YtabogkonklplcaaGreatDoor
open Go.RowKit Go.Shelf
set_option linter.unusedSimpArgs false
set_option linter.unusedVariables false
attribute [local go_sem] Oper.semAt_some
set_option maxRecDepth 20000 in
set_option maxHeartbeats 4000000 in
theorem tinside_any {s : List Nd} (wf : WF s) {h : Nat → Nat} {B : Nat} (u : Up s h B) {F : Nat → Prop} {bf bn cap : Nat} {pn : List PN} {w : World} (hD : PForAt w F bf bn cap pn s) (a b c d t : Nat) (ha : a < s.length) (hc : c < s.length) (ta : IsTop s a t) (tc : IsTop s c t) (hb : b ≤ sizeAt s a) (hd : d ≤ sizeAt s c) :
    Calls Tryz.prog 188 #[ptr bf, spV ⟨a, b, c, d⟩] w fun e w' => ∃ sa sc, e = .returned (.slice sa (leaveF s (plF s (B + 1) t) a b c d (allF s (B + 1) t)).length sc) ∧ w'.ownsRow 0 3 1 (.slice sa (leaveF s (plF s (B + 1) t) a b c d (allF s (B + 1) t)).length sc) (leaveF s (plF s (B + 1) t) a b c d (allF s (B + 1) t)).length (intsV (leaveF s (plF s (B + 1) t) a b c d (allF s (B + 1) t))) ∧ Below w.heap.size w w' ∧ (∀ k, (Value.slice sa (leaveF s (plF s (B + 1) t) a b c d (allF s (B + 1) t)).length sc).ownBlock = some k → w.heap.size ≤ k) := by
  obtain ⟨i0, hi, hz0, hz1, hz2⟩ := info_parts Tryz.infoInt
  have HD := hid hD.narrow
  clear hD
  refine callsIn_wide.1 (callsIn_of_wp_marks (F := Fence.wide) (n := 1) Tryz.func188 rfl trivial ?_ rfl)
  simp only [Tryz.ntmps188, List.size_toArray, List.length_cons, List.length_nil, Nat.reduceAdd, Nat.reduceSub, Array.replicate_succ, Array.replicate_zero, List.push_toArray, List.append_toArray, List.nil_append, List.cons_append]
  have C := hid (fun (W : World) => all_any bf t W)
  have CT := hid (fun (W : World) (hb : Below w.heap.size w W) => ttop_at wf (HD.out.below hb) ta ha)
  have st : (store ⟨w.heap.size + 1 + 1, 0, none⟩ (.func (.func 199) #[] #[.pointer (some ⟨w.heap.size, 0, none⟩), .pointer (some ⟨w.heap.size + 1, 0, none⟩)])).run Tryz.prog (((w.alloc (.cells #[ptr bf] 91)).alloc (.cells #[.int .i64 (a : Int), .int .i64 (b : Int), .int .i64 (c : Int), .int .i64 (d : Int)] 79)).alloc (.cells #[.nilFunc] 83)) =
      .ok () (((w.alloc (.cells #[ptr bf] 91)).alloc (.cells #[.int .i64 (a : Int), .int .i64 (b : Int), .int .i64 (c : Int), .int .i64 (d : Int)] 79)).alloc (.cells #[.func (.func 199) #[] #[.pointer (some ⟨w.heap.size, 0, none⟩), .pointer (some ⟨w.heap.size + 1, 0, none⟩)]] 83)) := by
    have key : ∀ W : World, (store ⟨W.heap.size, 0, none⟩ (.func (.func 199) #[] #[.pointer (some ⟨w.heap.size, 0, none⟩), .pointer (some ⟨w.heap.size + 1, 0, none⟩)])).run Tryz.prog (W.alloc (.cells #[.nilFunc] 83)) = .ok () (W.alloc (.cells #[.func (.func 199) #[] #[.pointer (some ⟨w.heap.size, 0, none⟩), .pointer (some ⟨w.heap.size + 1, 0, none⟩)]] 83)) := by
      intro W
      rw [run_store Tryz.prog _ _ _ _ (by rfl)]
      simp
      go_simp
    have k2 := key ((w.alloc (.cells #[ptr bf] 91)).alloc (.cells #[.int .i64 (a : Int), .int .i64 (b : Int), .int .i64 (c : Int), .int .i64 (d : Int)] 79))
    rw [World.size_alloc, World.size_alloc] at k2
    exact k2
  gi_wp2
  clear st
  obtain ⟨w0, hw0⟩ : ∃ w0, (((w.alloc (.cells #[ptr bf] 91)).alloc (.cells #[.int .i64 (a : Int), .int .i64 (b : Int), .int .i64 (c : Int), .int .i64 (d : Int)] 79)).alloc (.cells #[.func (.func 199) #[] #[.pointer (some ⟨w.heap.size, 0, none⟩), .pointer (some ⟨w.heap.size + 1, 0, none⟩)]] 83)).alloc (.cells #[.slice none 0 0] 24) = w0 := ⟨_, rfl⟩
  have hb0 : Below w.heap.size w w0 := by rw [← hw0]; exact ((((Below.refl _ w).alloc (Nat.le_refl _) _).alloc (by simp) _).alloc (by simp only [World.size_alloc]; omega) _).alloc (by simp only [World.size_alloc]; omega) _
  have hsz0 : w0.heap.size = w.heap.size + 4 := by rw [← hw0]; simp
  have y0 : w0.heap[w.heap.size]? = some (.cells #[ptr bf] 91 (0, 0)) := by
    rw [← hw0, Below.heap_alloc _ _ _ (by simp only [World.size_alloc]; omega), Below.heap_alloc _ _ _ (by simp only [World.size_alloc]; omega), Below.heap_alloc _ _ _ (by simp), heap_alloc_new]
  have y1 : w0.heap[w.heap.size + 1]? = some (.cells #[.int .i64 (a : Int), .int .i64 (b : Int), .int .i64 (c : Int), .int .i64 (d : Int)] 79 (0, 0)) := by
    rw [← hw0, Below.heap_alloc _ _ _ (by simp only [World.size_alloc]; omega), Below.heap_alloc _ _ _ (by simp)]
    have := heap_alloc_new (w.alloc (.cells #[ptr bf] 91)) (.cells #[.int .i64 (a : Int), .int .i64 (b : Int), .int .i64 (c : Int), .int .i64 (d : Int)] 79)
    rwa [World.size_alloc] at this
  have y2 : w0.heap[w.heap.size + 2]? = some (.cells #[.func (.func 199) #[] #[.pointer (some ⟨w.heap.size, 0, none⟩), .pointer (some ⟨w.heap.size + 1, 0, none⟩)]] 83 (0, 0)) := by
    rw [← hw0, Below.heap_alloc _ _ _ (by simp)]
    have := heap_alloc_new ((w.alloc (.cells #[ptr bf] 91)).alloc (.cells #[.int .i64 (a : Int), .int .i64 (b : Int), .int .i64 (c : Int), .int .i64 (d : Int)] 79)) (.cells #[.func (.func 199) #[] #[.pointer (some ⟨w.heap.size, 0, none⟩), .pointer (some ⟨w.heap.size + 1, 0, none⟩)]] 83)
    rwa [World.size_alloc, World.size_alloc] at this
  have y3 : w0.heap[w.heap.size + 3]? = some (.cells #[.slice none 0 0] 24 (0, 0)) := by
    rw [← hw0]
    have := heap_alloc_new (((w.alloc (.cells #[ptr bf] 91)).alloc (.cells #[.int .i64 (a : Int), .int .i64 (b : Int), .int .i64 (c : Int), .int .i64 (d : Int)] 79)).alloc (.cells #[.func (.func 199) #[] #[.pointer (some ⟨w.heap.size, 0, none⟩), .pointer (some ⟨w.heap.size + 1, 0, none⟩)]] 83)) (.cells #[.slice none 0 0] 24)
    rwa [World.size_alloc, World.size_alloc, World.size_alloc] at this
  rw [hw0]
  have e0 : w0.cell? ⟨w.heap.size, 0, none⟩ = some (ptr bf) := cell_of_heap y0 0
  have e1 : w0.cell? ⟨w.heap.size + 1, 0, none⟩ = some (.int .i64 (a : Int)) := cell_of_heap y1 0
  have HH := hid (And.intro hb0 (And.intro hsz0 (And.intro y0 (And.intro y1 (And.intro y2 (And.intro y3 hw0))))))
  clear hb0 hsz0 y0 y1 y2 y3 hw0
  refine wpIn_wide.2 ?_
  go_region_held3 (fun w' => w'.cell? ⟨w.heap.size, 0, none⟩ = some (ptr bf) ∧ w'.cell? ⟨w.heap.size + 1, 0, none⟩ = some (.int .i64 (a : Int))) (first | exact KP.out | go_keep) (first
    | (go_at_call 99; refine (CT.out _ (by first | exact HH.out.1 | exact HH.out.1.drew)).mono ?_; rintro e w3 ⟨rfl, hw3⟩; replace hw3 := hw3.symm; subst hw3)
    | (go_at_call 90; refine (C.out _).mono ?_; rintro e w3 ⟨rfl, hw3⟩; replace hw3 := hw3.symm; subst hw3))
  all_goals
    gi_wp2
    obtain ⟨wb, hwb⟩ : ∃ wb, ((w0.alloc (.cells #[ptr bf] 91)).alloc (.cells #[.int .i64 (t : Int)] 3)).drew = wb := ⟨_, rfl⟩
    obtain ⟨hb0, hsz0, y0, y1, y2, y3, _⟩ := HH.out
    have hszb : wb.heap.size = w.heap.size + 6 := by rw [← hwb]; simp [hsz0]
    have hb1 : Below w0.heap.size w0 wb := by rw [← hwb]; exact (((Below.refl _ w0).alloc (Nat.le_refl _) _).alloc (by simp) _).drew
    have hbb : Below w.heap.size w wb := hb0.trans (hb1.mono hb0.size)
    have x0 := (hb1.block _ (heap_lt y0)).trans y0
    have x1 := (hb1.block _ (heap_lt y1)).trans y1
    have x2 := (hb1.block _ (heap_lt y2)).trans y2
    have x3 := (hb1.block _ (heap_lt y3)).trans y3
    have x4 : wb.heap[w0.heap.size]? = some (.cells #[ptr bf] 91 (0, 0)) := by
      have h1 : ((w0.alloc (.cells #[ptr bf] 91)).alloc (.cells #[.int .i64 (t : Int)] 3)).heap[w0.heap.size]? = some (.cells #[ptr bf] 91 (0, 0)) := by
        rw [Below.heap_alloc _ _ _ (by simp)]
        exact heap_alloc_new w0 _
      rw [← hwb]; exact h1
    have x5 : wb.heap[w0.heap.size + 1]? = some (.cells #[.int .i64 (t : Int)] 3 (0, 0)) := by
      have h1 := heap_alloc_new (w0.alloc (.cells #[ptr bf] 91)) (.cells #[.int .i64 (t : Int)] 3)
      rw [World.size_alloc] at h1
      rw [← hwb]; exact h1
    rw [hwb]
    rw [hsz0] at x4 x5
    simp only [hsz0]
    have hDb := HD.out.below hbb
    have hHt := u.le t
    refine range_mine (gf := 138) (lb := #[ptr (w.heap.size + 4 + 1), ptr (w.heap.size + 4)]) rfl (enters_of Tryz.func138 (by kernel_rfl) rfl) rfl (O := fun k => k = w.heap.size + 3) (fun k e => by omega)
      (all1_ok wf u (B + 1) t ta.lt (by omega) wb _ _ _ hDb (fun k hk => ⟨by have := hk.2; omega, by have := hk.2; omega⟩) (cell_of_heap x5 0) (cell_of_heap x4 0) (by omega) (by omega))
      (fun pre O3 W => ∃ v, O3 = (fun k => k = w.heap.size + 3 ∨ v.ownBlock = some k) ∧ W.heap[w.heap.size + 3]? = some (.cells #[v] 24 (0, 0)) ∧ W.ownsRow 0 3 1 v (leaveF s (plF s (B + 1) t) a b c d pre).length (intsV (leaveF s (plF s (B + 1) t) a b c d pre)) ∧ v.ownBlock ≠ some (w.heap.size + 3) ∧ Stp (fun k => k = w.heap.size + 3) O3 wb W)
      (fun _ _ _ => False) ?mI ?mIx ?h0
      (fun y => Act.mk #[ptr bf, spV { a := a, b := b, c := c, d := d }, Value.pointer (some { block := w.heap.size, off := 0 }),
          Value.pointer (some { block := w.heap.size + 1, off := 0 }), Value.slice none 0 0,
          Value.pointer (some { block := w.heap.size + 1 + 1, off := 0 }), Value.pointer (some { block := w.heap.size + 1 + 1 + 1, off := 0 }), .int .i64 (y : Int),
          Value.func (Fn.func 199) #[] #[Value.pointer (some { block := w.heap.size, off := 0 }), Value.pointer (some { block := w.heap.size + 1, off := 0 })],
          ptr bf, ptr bf, Value.pointer (some { block := w.heap.size + 1, off := 0 }),
          Value.pointer (some { block := w.heap.size + 1, off := 0 }), Value.int IntKind.i64 a, Value.int IntKind.i64 t,
          Value.func (Fn.func 138) #[] #[ptr (w.heap.size + 4 + 1), ptr (w.heap.size + 4)], .int .i64 (y : Int), undef, undef, undef, undef, undef, undef, undef, undef, undef, undef, undef, undef, undef, undef, undef, undef, undef, undef, undef, undef, undef] []) ?assign ?body ?done ?stop
    case mI =>
      rintro pre O3 X Y ⟨v, rfl, h2, h3, h4, h5⟩ hk
      exact ⟨v, rfl, by rw [hk.block _ (heap_lt h2) (fun e => e.1 (.inl rfl))]; exact h2, hk.row h3 (fun b e e2 => e2.1 (.inr e)), h4, stp_mine (Nat.le_refl _) h5 hk⟩
    case mIx => intro pre O3 X Y h _; exact h
    case h0 =>
      refine ⟨.slice none 0 0, ?_, x3, World.ownsRow_nil _ _ _ _, by simp [Value.ownBlock], ?_⟩
      · funext k; simp [Value.ownBlock]
      · exact Stp.refl (fun k e => by omega)
    case assign =>
      intro m l' y W K hK
      dsimp only [encN]
      gi_wp2
      exact hK
    case body =>
      rintro m l' pre y O3 W hpre hO3 ⟨v, rfl, h2, h3, h4, h5⟩
      have hyall : y ∈ allF s (B + 1) t := hpre.subset (by simp)
      have hyl : y < s.length := all_lt wf (B + 1) t ta.lt y hyall
      obtain ⟨x, hx⟩ : ∃ x, s[y]? = some x := ⟨_, List.getElem?_eq_getElem hyl⟩
      have hty : IsTop s y t := ⟨all_climb wf (B + 1) t y hyall, ta.2⟩
      have hO3' : ∀ k, (k = w.heap.size + 3 ∨ v.ownBlock = some k) → ¬ k < w.heap.size + 3 := fun k e => by
        rcases h5.gains k e with e1 | e1 <;> omega
      have hDW := hDb.keeps h5.keeps (fun k hk e => by have := hk.2; omega)
      have z0 : W.heap[w.heap.size]? = some (.cells #[ptr bf] 91 (0, 0)) := by
        rw [h5.keeps.block _ (heap_lt x0) (by simp)]; exact x0
      have z1 : W.heap[w.heap.size + 1]? = some (.cells #[.int .i64 (a : Int), .int .i64 (b : Int), .int .i64 (c : Int), .int .i64 (d : Int)] 79 (0, 0)) := by
        rw [h5.keeps.block _ (heap_lt x1) (by simp)]; exact x1
      have z2 : W.heap[w.heap.size + 2]? = some (.cells #[.func (.func 199) #[] #[.pointer (some ⟨w.heap.size, 0, none⟩), .pointer (some ⟨w.heap.size + 1, 0, none⟩)]] 83 (0, 0)) := by
        rw [h5.keeps.block _ (heap_lt x2) (by simp)]; exact x2
      have g0 : W.cell? ⟨w.heap.size, 0, none⟩ = some (ptr bf) := cell_of_heap z0 0
      have g2 : W.cell? ⟨w.heap.size + 1 + 1, 0, none⟩ = some (.func (.func 199) #[] #[.pointer (some ⟨w.heap.size, 0, none⟩), .pointer (some ⟨w.heap.size + 1, 0, none⟩)]) := cell_of_heap z2 0
      have g3 : W.cell? ⟨w.heap.size + 1 + 1 + 1, 0, none⟩ = some v := cell_of_heap h2 0
      obtain ⟨r, hr, ho, d0, d1, d2, d3⟩ := hDW.look hx
      have n0 := hDW.nodesCell
      have hfl := hDW.lt
      have hlW : w.heap.size + 6 ≤ W.heap.size := by have := h5.keeps.size; omega
      have CY := hid (fun W2 (hB : Below W.heap.size W W2) => in1_any wf u (hDW.below hB) a b c d t y w.heap.size (w.heap.size + 1) ha hc hyl ta tc hty hb hd ((hB.cell (p := ⟨w.heap.size, 0, none⟩) (by simp only; omega)).trans g0) ((hB.block _ (heap_lt z1)).trans z1))
      have hsn := leaveF_snoc s (plF s (B + 1) t) a b c d pre y
      have hgo : goesB s (plF s (B + 1) t) a b c d y = (insB s (plF s (B + 1) t) a b c d y && !insB s (plF s (B + 1) t) a b c d (parOf s y).toNat) := rfl
      obtain ⟨ib, hib⟩ : ∃ ib, insB s (plF s (B + 1) t) a b c d y = ib := ⟨_, rfl⟩
      rw [hib] at CY hgo
      have hylI : (y : Int) < (s.length : Int) := by omega
      have KEEP := hid (fun W2 (hB : Below W.heap.size W W2) => And.intro ((hB.cell (p := ⟨w.heap.size, 0, none⟩) (by simp only; omega)).trans g0) (And.intro ((hB.cell (p := ⟨w.heap.size + 1 + 1, 0, none⟩) (by simp only; omega)).trans g2) (And.intro ((hB.cell (p := ⟨bf, 0, none⟩) hfl.1).trans n0) (And.intro ((hB.cell (p := ⟨bn, y * 4, none⟩) hfl.2).trans d0) ((hB.cell (p := ⟨w.heap.size + 1 + 1 + 1, 0, none⟩) (by simp only; omega)).trans g3)))))
      have HALL := hid (And.intro h2 (And.intro h3 (And.intro h4 (And.intro h5 (And.intro hO3 (And.intro hO3' hsn))))))
      have HBW := hid (Below.refl W.heap.size W)
      cases ib with
      | false =>
        rw [Bool.false_and] at hgo
        have HGO := hid hgo
        clear h2 h3 h4 h5 hO3 hO3' hsn hDW z0 z1 z2 hr ho d1 d2 d3 hpre hyall x0 x1 x2 x3 x4 x5 hDb hb1 y0 y1 y2 y3 hb0 hwb HH HD C CT e0 e1 hgo hib hty
        gi_wp2
        refine region_round (fun w' => w'.cell? ⟨w.heap.size, 0, none⟩ = some (ptr bf) ∧ w'.cell? ⟨w.heap.size + 1 + 1, 0, none⟩ = some (.func (.func 199) #[] #[.pointer (some ⟨w.heap.size, 0, none⟩), .pointer (some ⟨w.heap.size + 1, 0, none⟩)]) ∧ w'.cell? ⟨bf, 0, none⟩ = some (.slice (some ⟨bn, 0, none⟩) s.length cap) ∧ w'.cell? ⟨bn, y * 4, none⟩ = some (.int .i64 x.p) ∧ w'.cell? ⟨w.heap.size + 1 + 1 + 1, 0, none⟩ = some v) (by kernel_rfl) (by kernel_rfl) (fun ⟨_, _, h⟩ => h) (KEEP.out _ (Below.refl _ W).drew) (fun hHeld => ?_)
        refine take_to (i := 0) 17 (v := (.func (.func 199) #[] #[.pointer (some ⟨w.heap.size, 0, none⟩), .pointer (some ⟨w.heap.size + 1, 0, none⟩)])) rfl rfl (by kernel_rfl) (by kernel_rfl) (by kernel_rfl) (fun _ _ _ h => h) (Or.inl ⟨by rfl, ?_⟩) (by assumption) ?_
        · intro w2 hS2; obtain ⟨t0, t1, t2, t3, t4⟩ := hS2; first | (go_simp; done) | (go_simp; with_reducible rfl)
        simp only [List.setIfInBounds_toArray, List.set_cons_zero, List.set_cons_succ]
        refine take_to (i := 1) 18 (v := .int .i64 (y : Int)) rfl rfl (by kernel_rfl) (by kernel_rfl) (by kernel_rfl) (fun _ _ _ h => h) (Or.inl ⟨by rfl, ?_⟩) (by assumption) ?_
        · intro w2 hS2; obtain ⟨t0, t1, t2, t3, t4⟩ := hS2; first | (go_simp; done) | (go_simp; with_reducible rfl)
        simp only [List.setIfInBounds_toArray, List.set_cons_zero, List.set_cons_succ]
        refine wpAnyH_ready (rs := [2]) (by kernel_rfl) (by simp) ?_
        refine AllReadyH.cons (i := 2) rfl (fun K hK => ?_) AllReadyH.nil
        go_simp
        refine (CY.out _ ?_).mono ?_
        · first | exact HBW.out | exact HBW.out.drew | exact below_drewN HBW.out _
        rintro e w6 ⟨rfl, hbx⟩
        have HB6 := hid (show Below W.heap.size W w6 from ⟨hbx.os.trans HBW.out.os, hbx.tape.trans HBW.out.tape, hbx.output.trans HBW.out.output, Nat.le_trans HBW.out.size hbx.size, fun k hk => (hbx.block k (Nat.lt_of_lt_of_le hk HBW.out.size)).trans (HBW.out.block k hk)⟩)
        clear hbx
        dsimp only
        refine hK.out _ _ (KEEP.out _ HB6.out) (fun hHeld => ?_)
        clear hK K
        try simp only [Act.put, List.setIfInBounds_toArray, List.set_cons_zero, List.set_cons_succ]
        refine take_to (i := 3) 20 (v := .bool false) rfl rfl (by kernel_rfl) (by kernel_rfl) (by kernel_rfl) (fun _ _ _ h => h) (Or.inl ⟨by rfl, ?_⟩) (by assumption) ?_
        · intro w2 hS2; obtain ⟨t0, t1, t2, t3, t4⟩ := hS2; first | (go_simp; done) | (go_simp; with_reducible rfl)
        simp only [List.setIfInBounds_toArray, List.set_cons_zero, List.set_cons_succ]
        refine take_to (i := 4) 21 (v := undef) rfl rfl (by kernel_rfl) (by kernel_rfl) (by kernel_rfl) (fun _ _ _ h => h) (Or.inr ⟨by rfl, rfl⟩) (by assumption) ?_
        simp only [List.setIfInBounds_toArray, List.set_cons_zero, List.set_cons_succ]
        refine take_to (i := 5) 22 (v := undef) rfl rfl (by kernel_rfl) (by kernel_rfl) (by kernel_rfl) (fun _ _ _ h => h) (Or.inr ⟨by rfl, rfl⟩) (by assumption) ?_
        simp only [List.setIfInBounds_toArray, List.set_cons_zero, List.set_cons_succ]
        refine take_to (i := 6) 23 (v := undef) rfl rfl (by kernel_rfl) (by kernel_rfl) (by kernel_rfl) (fun _ _ _ h => h) (Or.inr ⟨by rfl, rfl⟩) (by assumption) ?_
        simp only [List.setIfInBounds_toArray, List.set_cons_zero, List.set_cons_succ]
        refine take_to (i := 7) 24 (v := undef) rfl rfl (by kernel_rfl) (by kernel_rfl) (by kernel_rfl) (fun _ _ _ h => h) (Or.inr ⟨by rfl, rfl⟩) (by assumption) ?_
        simp only [List.setIfInBounds_toArray, List.set_cons_zero, List.set_cons_succ]
        refine take_to (i := 8) 25 (v := undef) rfl rfl (by kernel_rfl) (by kernel_rfl) (by kernel_rfl) (fun _ _ _ h => h) (Or.inr ⟨by rfl, rfl⟩) (by assumption) ?_
        simp only [List.setIfInBounds_toArray, List.set_cons_zero, List.set_cons_succ]
        refine take_to (i := 9) 26 (v := undef) rfl rfl (by kernel_rfl) (by kernel_rfl) (by kernel_rfl) (fun _ _ _ h => h) (Or.inr ⟨by rfl, rfl⟩) (by assumption) ?_
        simp only [List.setIfInBounds_toArray, List.set_cons_zero, List.set_cons_succ]
        refine take_to (i := 10) 27 (v := undef) rfl rfl (by kernel_rfl) (by kernel_rfl) (by kernel_rfl) (fun _ _ _ h => h) (Or.inr ⟨by rfl, rfl⟩) (by assumption) ?_
        simp only [List.setIfInBounds_toArray, List.set_cons_zero, List.set_cons_succ]
        refine take_to (i := 11) 28 (v := undef) rfl rfl (by kernel_rfl) (by kernel_rfl) (by kernel_rfl) (fun _ _ _ h => h) (Or.inr ⟨by rfl, rfl⟩) (by assumption) ?_
        simp only [List.setIfInBounds_toArray, List.set_cons_zero, List.set_cons_succ]
        refine take_to (i := 12) 29 (v := undef) rfl rfl (by kernel_rfl) (by kernel_rfl) (by kernel_rfl) (fun _ _ _ h => h) (Or.inr ⟨by rfl, rfl⟩) (by assumption) ?_
        simp only [List.setIfInBounds_toArray, List.set_cons_zero, List.set_cons_succ]
        refine take_to (i := 13) 30 (v := undef) rfl rfl (by kernel_rfl) (by kernel_rfl) (by kernel_rfl) (fun _ _ _ h => h) (Or.inr ⟨by rfl, rfl⟩) (by assumption) ?_
        simp only [List.setIfInBounds_toArray, List.set_cons_zero, List.set_cons_succ]
        refine take_to (i := 14) 31 (v := undef) rfl rfl (by kernel_rfl) (by kernel_rfl) (by kernel_rfl) (fun _ _ _ h => h) (Or.inr ⟨by rfl, rfl⟩) (by assumption) ?_
        simp only [List.setIfInBounds_toArray, List.set_cons_zero, List.set_cons_succ]
        refine take_to (i := 15) 32 (v := .bool false) rfl rfl (by kernel_rfl) (by kernel_rfl) (by kernel_rfl) (fun _ _ _ h => h) (Or.inl ⟨by rfl, ?_⟩) (by assumption) ?_
        · intro w2 hS2; obtain ⟨t0, t1, t2, t3, t4⟩ := hS2; first | (go_simp; done) | (go_simp; with_reducible rfl)
        simp only [List.setIfInBounds_toArray, List.set_cons_zero, List.set_cons_succ]
        refine wpAnyH_done (by kernel_rfl) ?_ _
        have hs6 : Stp (fun k => k = w.heap.size + 3 ∨ v.ownBlock = some k) (fun k => k = w.heap.size + 3 ∨ v.ownBlock = some k) W w6 := ⟨Keeps.of_below HB6.out, fun k e => .inl e, fun k e => Nat.lt_of_lt_of_le (HALL.out.2.2.2.2.1 k e) HB6.out.size⟩
        gi_wp2
        obtain ⟨h2, h3, h4, h5, hO3, hO3', hsn⟩ := HALL.out
        rw [HGO.out, if_neg (by decide), List.append_nil] at hsn
        refine ⟨_, hs6, v, rfl, (HB6.out.block _ (heap_lt h2)).trans h2, ?_, h4, h5.trans hs6⟩
        rw [hsn]
        exact (Keeps.of_below (F := fun _ => False) HB6.out).row h3 (fun _ _ e => e)
      | true =>
        obtain ⟨j, m', y', hj, hy, hm', hno, hyl'⟩ := wf.place hx (by obtain ⟨x', hx', hp'⟩ := insB_par hib; rw [hx] at hx'; cases hx'; exact hp')
        have hjl : j < s.length := (List.getElem?_eq_some_iff.1 hy).1
        have hpj : (parOf s y).toNat = j := by simp [parOf, hx, hj]
        rw [hpj, Bool.true_and] at hgo
        have CJ := hid (fun W2 (hB : Below W.heap.size W W2) => in1_any wf u (hDW.below hB) a b c d t j w.heap.size (w.heap.size + 1) ha hc hjl ta tc (hty.par hx hj) hb hd ((hB.cell (p := ⟨w.heap.size, 0, none⟩) (by simp only; omega)).trans g0) ((hB.block _ (heap_lt z1)).trans z1))
        obtain ⟨jb, hjb⟩ : ∃ jb, insB s (plF s (B + 1) t) a b c d j = jb := ⟨_, rfl⟩
        rw [hjb] at CJ hgo
        rw [hj] at d0 KEEP
        have HGO := hid hgo
        have HLN : Hid ((leaveF s (plF s (B + 1) t) a b c d pre).length + 1 < 100) := by
          have h8 := leave_len s (plF s (B + 1) t) a b c d pre
          have h9 := hpre.length_le
          have h7 := all_length wf (B + 1) t ta.lt
          simp at h9
          show _ < _
          omega
        clear h2 h3 h4 h5 hO3 hO3' hsn hDW z0 z1 z2 hr ho d1 d2 d3 hpre hyall x0 x1 x2 x3 x4 x5 hDb hb1 y0 y1 y2 y3 hb0 hwb HH HD C CT e0 e1 hgo hib hty hy hm' hno hjb hpj
        gi_wp2
        refine region_round (fun w' => w'.cell? ⟨w.heap.size, 0, none⟩ = some (ptr bf) ∧ w'.cell? ⟨w.heap.size + 1 + 1, 0, none⟩ = some (.func (.func 199) #[] #[.pointer (some ⟨w.heap.size, 0, none⟩), .pointer (some ⟨w.heap.size + 1, 0, none⟩)]) ∧ w'.cell? ⟨bf, 0, none⟩ = some (.slice (some ⟨bn, 0, none⟩) s.length cap) ∧ w'.cell? ⟨bn, y * 4, none⟩ = some (.int .i64 (j : Int)) ∧ w'.cell? ⟨w.heap.size + 1 + 1 + 1, 0, none⟩ = some v) (by kernel_rfl) (by kernel_rfl) (fun ⟨_, _, h⟩ => h) (KEEP.out _ (Below.refl _ W).drew) (fun hHeld => ?_)
        refine take_to (i := 0) 17 (v := (.func (.func 199) #[] #[.pointer (some ⟨w.heap.size, 0, none⟩), .pointer (some ⟨w.heap.size + 1, 0, none⟩)])) rfl rfl (by kernel_rfl) (by kernel_rfl) (by kernel_rfl) (fun _ _ _ h => h) (Or.inl ⟨by rfl, ?_⟩) (by assumption) ?_
        · intro w2 hS2; obtain ⟨t0, t1, t2, t3, t4⟩ := hS2; first | (go_simp; done) | (go_simp; with_reducible rfl)
        simp only [List.setIfInBounds_toArray, List.set_cons_zero, List.set_cons_succ]
        refine take_to (i := 1) 18 (v := .int .i64 (y : Int)) rfl rfl (by kernel_rfl) (by kernel_rfl) (by kernel_rfl) (fun _ _ _ h => h) (Or.inl ⟨by rfl, ?_⟩) (by assumption) ?_
        · intro w2 hS2; obtain ⟨t0, t1, t2, t3, t4⟩ := hS2; first | (go_simp; done) | (go_simp; with_reducible rfl)
        simp only [List.setIfInBounds_toArray, List.set_cons_zero, List.set_cons_succ]
        refine wpAnyH_ready (rs := [2]) (by kernel_rfl) (by simp) ?_
        refine AllReadyH.cons (i := 2) rfl (fun K hK => ?_) AllReadyH.nil
        go_simp
        refine (CY.out _ ?_).mono ?_
        · first | exact HBW.out | exact HBW.out.drew | exact below_drewN HBW.out _
        rintro e w6 ⟨rfl, hbx⟩
        have HB6 := hid (show Below W.heap.size W w6 from ⟨hbx.os.trans HBW.out.os, hbx.tape.trans HBW.out.tape, hbx.output.trans HBW.out.output, Nat.le_trans HBW.out.size hbx.size, fun k hk => (hbx.block k (Nat.lt_of_lt_of_le hk HBW.out.size)).trans (HBW.out.block k hk)⟩)
        clear hbx
        dsimp only
        refine hK.out _ _ (KEEP.out _ HB6.out) (fun hHeld => ?_)
        clear hK K
        try simp only [Act.put, List.setIfInBounds_toArray, List.set_cons_zero, List.set_cons_succ]
        refine take_to (i := 3) 20 (v := .bool true) rfl rfl (by kernel_rfl) (by kernel_rfl) (by kernel_rfl) (fun _ _ _ h => h) (Or.inl ⟨by rfl, ?_⟩) (by assumption) ?_
        · intro w2 hS2; obtain ⟨t0, t1, t2, t3, t4⟩ := hS2; first | (go_simp; done) | (go_simp; with_reducible rfl)
        simp only [List.setIfInBounds_toArray, List.set_cons_zero, List.set_cons_succ]
        refine take_to (i := 4) 21 (v := (.func (.func 199) #[] #[.pointer (some ⟨w.heap.size, 0, none⟩), .pointer (some ⟨w.heap.size + 1, 0, none⟩)])) rfl rfl (by kernel_rfl) (by kernel_rfl) (by kernel_rfl) (fun _ _ _ h => h) (Or.inl ⟨by rfl, ?_⟩) (by assumption) ?_
        · intro w2 hS2; obtain ⟨t0, t1, t2, t3, t4⟩ := hS2; first | (go_simp; done) | (go_simp; with_reducible rfl)
        simp only [List.setIfInBounds_toArray, List.set_cons_zero, List.set_cons_succ]
        refine take_to (i := 5) 22 (v := ptr bf) rfl rfl (by kernel_rfl) (by kernel_rfl) (by kernel_rfl) (fun _ _ _ h => h) (Or.inl ⟨by rfl, ?_⟩) (by assumption) ?_
        · intro w2 hS2; obtain ⟨t0, t1, t2, t3, t4⟩ := hS2; first | (go_simp; done) | (go_simp; with_reducible rfl)
        simp only [List.setIfInBounds_toArray, List.set_cons_zero, List.set_cons_succ]
        refine take_to (i := 6) 23 (v := ptr bf) rfl rfl (by kernel_rfl) (by kernel_rfl) (by kernel_rfl) (fun _ _ _ h => h) (Or.inl ⟨by rfl, ?_⟩) (by assumption) ?_
        · intro w2 hS2; obtain ⟨t0, t1, t2, t3, t4⟩ := hS2; first | (go_simp; done) | (go_simp; with_reducible rfl)
        simp only [List.setIfInBounds_toArray, List.set_cons_zero, List.set_cons_succ]
        refine take_to (i := 7) 24 (v := .pointer (some ⟨bf, 0, none⟩)) rfl rfl (by kernel_rfl) (by kernel_rfl) (by kernel_rfl) (fun _ _ _ h => h) (Or.inl ⟨by rfl, ?_⟩) (by assumption) ?_
        · intro w2 hS2; obtain ⟨t0, t1, t2, t3, t4⟩ := hS2; first | (go_simp; done) | (go_simp; with_reducible rfl)
        simp only [List.setIfInBounds_toArray, List.set_cons_zero, List.set_cons_succ]
        refine take_to (i := 8) 25 (v := .slice (some ⟨bn, 0, none⟩) s.length cap) rfl rfl (by kernel_rfl) (by kernel_rfl) (by kernel_rfl) (fun _ _ _ h => h) (Or.inl ⟨by rfl, ?_⟩) (by assumption) ?_
        · intro w2 hS2; obtain ⟨t0, t1, t2, t3, t4⟩ := hS2; first | (go_simp; done) | (go_simp; with_reducible rfl)
        simp only [List.setIfInBounds_toArray, List.set_cons_zero, List.set_cons_succ]
        refine take_to (i := 9) 26 (v := .int .i64 (y : Int)) rfl rfl (by kernel_rfl) (by kernel_rfl) (by kernel_rfl) (fun _ _ _ h => h) (Or.inl ⟨by rfl, ?_⟩) (by assumption) ?_
        · intro w2 hS2; obtain ⟨t0, t1, t2, t3, t4⟩ := hS2; first | (go_simp; done) | (go_simp; with_reducible rfl)
        simp only [List.setIfInBounds_toArray, List.set_cons_zero, List.set_cons_succ]
        refine take_to (i := 10) 27 (v := .pointer (some ⟨bn, y * 4, none⟩)) rfl rfl (by kernel_rfl) (by kernel_rfl) (by kernel_rfl) (fun _ _ _ h => h) (Or.inl ⟨by rfl, ?_⟩) (by assumption) ?_
        · intro w2 hS2; obtain ⟨t0, t1, t2, t3, t4⟩ := hS2; first | (go_simp; done) | (go_simp; with_reducible rfl)
        simp only [List.setIfInBounds_toArray, List.set_cons_zero, List.set_cons_succ]
        refine take_to (i := 11) 28 (v := .pointer (some ⟨bn, y * 4, none⟩)) rfl rfl (by kernel_rfl) (by kernel_rfl) (by kernel_rfl) (fun _ _ _ h => h) (Or.inl ⟨by rfl, ?_⟩) (by assumption) ?_
        · intro w2 hS2; obtain ⟨t0, t1, t2, t3, t4⟩ := hS2; first | (go_simp; done) | (go_simp; with_reducible rfl)
        simp only [List.setIfInBounds_toArray, List.set_cons_zero, List.set_cons_succ]
        refine take_to (i := 12) 29 (v := .int .i64 (j : Int)) rfl rfl (by kernel_rfl) (by kernel_rfl) (by kernel_rfl) (fun _ _ _ h => h) (Or.inl ⟨by rfl, ?_⟩) (by assumption) ?_
        · intro w2 hS2; obtain ⟨t0, t1, t2, t3, t4⟩ := hS2; first | (go_simp; done) | (go_simp; with_reducible rfl)
        simp only [List.setIfInBounds_toArray, List.set_cons_zero, List.set_cons_succ]
        refine wpAnyH_ready (rs := [13]) (by kernel_rfl) (by simp) ?_
        refine AllReadyH.cons (i := 13) rfl (fun K hK => ?_) AllReadyH.nil
        go_simp
        refine (CJ.out _ ?_).mono ?_
        · first | exact HB6.out | exact HB6.out.drew | exact below_drewN HB6.out _
        rintro e w7 ⟨rfl, hbx⟩
        have HB7 := hid (show Below W.heap.size W w7 from ⟨hbx.os.trans HB6.out.os, hbx.tape.trans HB6.out.tape, hbx.output.trans HB6.out.output, Nat.le_trans HB6.out.size hbx.size, fun k hk => (hbx.block k (Nat.lt_of_lt_of_le hk HB6.out.size)).trans (HB6.out.block k hk)⟩)
        clear hbx
        dsimp only
        refine hK.out _ _ (KEEP.out _ HB7.out) (fun hHeld => ?_)
        clear hK K
        try simp only [Act.put, List.setIfInBounds_toArray, List.set_cons_zero, List.set_cons_succ]
        refine take_to (i := 14) 31 (v := .bool (!jb)) rfl rfl (by kernel_rfl) (by kernel_rfl) (by kernel_rfl) (fun _ _ _ h => h) (Or.inl ⟨by rfl, ?_⟩) (by assumption) ?_
        · intro w2 hS2; obtain ⟨t0, t1, t2, t3, t4⟩ := hS2; first | (go_simp; done) | (go_simp; with_reducible rfl)
        simp only [List.setIfInBounds_toArray, List.set_cons_zero, List.set_cons_succ]
        refine take_to (i := 15) 32 (v := .bool (!jb)) rfl rfl (by kernel_rfl) (by kernel_rfl) (by kernel_rfl) (fun _ _ _ h => h) (Or.inl ⟨by rfl, ?_⟩) (by assumption) ?_
        · intro w2 hS2; obtain ⟨t0, t1, t2, t3, t4⟩ := hS2; first | (go_simp; done) | (go_simp; with_reducible rfl)
        simp only [List.setIfInBounds_toArray, List.set_cons_zero, List.set_cons_succ]
        refine wpAnyH_done (by kernel_rfl) ?_ _
        obtain ⟨t0, t1, t2, t3, t4⟩ := KEEP.out _ HB7.out
        have hs7 : Stp (fun k => k = w.heap.size + 3 ∨ v.ownBlock = some k) (fun k => k = w.heap.size + 3 ∨ v.ownBlock = some k) W w7 := ⟨Keeps.of_below HB7.out, fun k e => .inl e, fun k e => Nat.lt_of_lt_of_le (HALL.out.2.2.2.2.1 k e) HB7.out.size⟩
        cases jb with
        | true =>
          simp only [Bool.not_true]
          gi_wp2
          obtain ⟨h2, h3, h4, h5, hO3, hO3', hsn⟩ := HALL.out
          rw [HGO.out, Bool.not_true, if_neg (by decide), List.append_nil] at hsn
          refine ⟨_, hs7, v, rfl, (HB7.out.block _ (heap_lt h2)).trans h2, ?_, h4, h5.trans hs7⟩
          rw [hsn]
          exact (Keeps.of_below (F := fun _ => False) HB7.out).row h3 (fun _ _ e => e)
        | false =>
          simp only [Bool.not_false]
          have H2 := hid ((HB7.out.block _ (heap_lt HALL.out.1)).trans HALL.out.1)
          have H3 := hid ((Keeps.of_below (F := fun _ => False) HB7.out).row HALL.out.2.1 (fun _ _ e => e))
          have hlW7 : w.heap.size + 3 < w7.heap.size := heap_lt H2.out
          have hll : (leaveF s (plF s (B + 1) t) a b c d pre).length + 1 < 100 := HLN.out
          have H4 := hid HALL.out.2.2.1
          have HS7 := hid hs7
          clear hs7
          gi_wp2_with (gi_at_builtin; refine wpListIn_append_own_at _ rfl _ _ 24 rfl 0 3 i0 (.int .i64 0) 1 8 Tryz.underlying24 hi hz0 hz1 hz2 rfl (by decide) v _ _ rfl (H3.out.alloc _) ⟨w7.heap.size, 0, none⟩ 1 1 [.int .i64 (y : Int)] rfl rfl (cell_one_new _ _ _) (by simp [Value.oneCell']) (by unfold maxLen; omega) (by omega) (Nat.zero_le _) ?_
                       intro v' w1 hown' hgrow _ hob
                       obtain ⟨g', cap', rfl⟩ := ownsRow_succ hown'
                       have hq1 := (hgrow.block (w.heap.size + 3) (by simp only [World.size_alloc]; omega) (fun e => H4.out e.symm)).trans ((Below.heap_alloc _ _ _ hlW7).trans H2.out)
                       have hc1 : w1.cell? ⟨w.heap.size + 1 + 1 + 1, 0, none⟩ = some v := cell_of_heap hq1 0
                       have hf1 : w1.frozen? ⟨w.heap.size + 1 + 1 + 1, 0, none⟩ = false := frozen_of_heap hq1 0
                       have HQ := hid hq1
                       have HW := hid hown'
                       have HG := hid hgrow
                       have HOB := hid hob
                       clear hown' hgrow hob hq1)
          obtain ⟨h2, h3, h4, h5, hO3, hO3', hsn⟩ := HALL.out
          rw [HGO.out, Bool.not_false, if_pos rfl] at hsn
          have hz7 := HS7.out.keeps.size
          have hgb : v.ownBlock = some g' ∨ w7.heap.size ≤ g' := by
            rcases HOB.out with e | e
            · left; rw [← e]; rfl
            · right
              have e' : g' = w7.heap.size + 1 := by simpa [Value.ownBlock] using e
              omega
          have hg' : g' ≠ w.heap.size + 3 := by
            rcases hgb with e | e
            · rintro rfl; exact h4 e
            · omega
          have hs : Stp (fun k => k = w.heap.size + 3 ∨ v.ownBlock = some k) (fun k => k = w.heap.size + 3 ∨ (Value.slice (some ⟨g', 0, none⟩) ((leaveF s (plF s (B + 1) t) a b c d pre).length + 1) cap').ownBlock = some k) W (w1.setCell ⟨w.heap.size + 1 + 1 + 1, 0, none⟩ (.slice (some ⟨g', 0, none⟩) ((leaveF s (plF s (B + 1) t) a b c d pre).length + 1) cap')) := by
            refine ⟨?_, ?_, ?_⟩
            · exact ((((Keeps.of_below HB7.out).alloc _).trans (Keeps.grown HG.out (fun k e => .inl (.inl (.inr e))))).setCell (p := ⟨w.heap.size + 1 + 1 + 1, 0, none⟩) (.inl (.inl rfl)) _)
            · rintro k (e | e)
              · exact .inl (.inl e)
              · have e' : g' = k := by simpa [Value.ownBlock] using e
                subst e'
                rcases hgb with e | e
                · exact .inl (.inr e)
                · exact .inr (by omega)
            · have hz : (w1.setCell ⟨w.heap.size + 1 + 1 + 1, 0, none⟩ (.slice (some ⟨g', 0, none⟩) ((leaveF s (plF s (B + 1) t) a b c d pre).length + 1) cap')).heap.size = w1.heap.size := by simp
              rintro k (e | e)
              · rw [hz, e]; exact heap_lt HQ.out
              · have e' : g' = k := by simpa [Value.ownBlock] using e
                subst e'
                rw [hz]
                exact (HW.out.lt g' rfl).2
          refine ⟨_, hs, _, rfl, by rw [heap_setCell_same w1 _ 0 _ _ _ HQ.out]; rfl, ?_, by simpa [Value.ownBlock] using hg', h5.trans hs⟩
          have hrw := row_setCell_other HW.out (p := ⟨w.heap.size + 1 + 1 + 1, 0, none⟩) (by simpa [Value.ownBlock] using hg') (.slice (some ⟨g', 0, none⟩) ((leaveF s (plF s (B + 1) t) a b c d pre).length + 1) cap')
          rw [hsn, List.length_append]
          simpa [intsV] using hrw
    case done =>
      rintro O5 W st5 hn5 ⟨v, rfl, h2, h3, h4, h5⟩ hD5
      obtain ⟨sa, sc, hkv⟩ : ∃ a' c', v = .slice a' (leaveF s (plF s (B + 1) t) a b c d (allF s (B + 1) t)).length c' := by
        rcases row_cases h3 with ⟨e1, e2⟩ | ⟨g, c, e1⟩
        · exact ⟨none, 0, by rw [e1, e2]⟩
        · exact ⟨_, _, e1⟩
      subst hkv
      have f1 : W.cell? ⟨w.heap.size + 1 + 1 + 1, 0, none⟩ = some (.slice sa (leaveF s (plF s (B + 1) t) a b c d (allF s (B + 1) t)).length sc) := cell_of_heap h2 0
      have H := hid (And.intro st5 (And.intro hn5 (And.intro h3 (And.intro h4 hD5))))
      have HZ := hid hszb
      clear st5 hn5 h2 h3 h4 h5 hD5 x0 x1 x2 x3 x4 x5 hszb hDb hb1 y0 y1 y2 y3 hb0 hwb
      gi_wp2
      obtain ⟨st5, hn5, h3, h4, hD5⟩ := H.out
      have hszb := HZ.out
      refine leaves_marks [wb.heap.size] _ (by simp) (fun D hm => ?_) (fun w' hk' => ⟨.slice sa (leaveF s (plF s (B + 1) t) a b c d (allF s (B + 1) t)).length sc, ?_, sa, sc, rfl, ?_, ?_, ?_⟩)
      · obtain rfl : D = wb.heap.size := by simpa using hm
        exact hD5
      · exact results_tmp (fn := Tryz.f188) (t := 4) rfl _ _ _
      · refine hk'.row h3 (fun k e e2 => ?_)
        have : k = wb.heap.size := by simpa using e2
        subst this
        exact hn5 (.inr e)
      · have k1 : Keeps (fun _ => False) w wb := Keeps.of_below hbb
        have k2 : Keeps (fun _ => False) w W := k1.trans (st5.keeps.mono (fun k _ e => .inr (by omega)))
        exact (k2.trans (hk'.mono (fun k _ e => .inr (by simp at e; omega)))).below
      · intro k e
        rcases st5.gains k (.inr e) with e1 | e1
        · omega
        · omega
    case stop =>
      rintro O5 pre W hpre st5 hn5 h hD5
      exact h.elim
end Go.Proofs.YtabogkonklplcaaGreatDoor

namespace Go.Proofs.YtabogkonklplcaaGreatDoor
open Go.RowKit Go.Lib
set_option linter.unusedSimpArgs false
set_option linter.unusedVariables false
theorem MoveOk.down {m m' : Nat} {w : World} {mv : Value} {f : Mvf} (h : MoveOk m w mv f) (hm : m' ≤ m) : MoveOk m' w mv f := by
  obtain ⟨gf, lb, e, he, hr⟩ := h.runs
  exact ⟨gf, lb, e, he, fun G W hk hG => hr G W hk (fun b hb => hG b (by omega))⟩
def MovesOk (m : Nat) (w : World) (vs : List Value) (fs : List Mvf) : Prop := vs.length = fs.length ∧ ∀ (i : Nat) (v : Value) (f : Mvf), vs[i]? = some v → fs[i]? = some f → MoveOk m w v f
theorem MovesOk.keeps {m : Nat} {w W : World} {vs : List Value} {fs : List Mvf} {G : Nat → Prop} (h : MovesOk m w vs fs) (hk : Keeps G w W) (hG : ∀ b, m ≤ b → ¬ G b) : MovesOk m W vs fs :=
  ⟨h.1, fun i v f h1 h2 => (h.2 i v f h1 h2).keeps hk hG⟩
theorem MovesOk.snoc {m : Nat} {w : World} {vs : List Value} {fs : List Mvf} {v : Value} {f : Mvf} (h : MovesOk m w vs fs) (hv : MoveOk m w v f) : MovesOk m w (vs ++ [v]) (fs ++ [f]) := by
  refine ⟨by simp [h.1], fun i v' f' h1 h2 => ?_⟩
  by_cases hi : i < vs.length
  · rw [List.getElem?_append_left hi] at h1
    rw [List.getElem?_append_left (by rw [← h.1]; exact hi)] at h2
    exact h.2 i v' f' h1 h2
  · rw [List.getElem?_append_right (by omega)] at h1
    rw [List.getElem?_append_right (by rw [← h.1]; omega), ← h.1] at h2
    obtain ⟨k, hk⟩ : ∃ k, k = i - vs.length := ⟨_, rfl⟩
    rw [← hk] at h1 h2
    cases k with
    | zero => simp at h1 h2; subst h1; subst h2; exact hv
    | succ k => simp at h1
theorem compF_take (fs : List Mvf) (k : Nat) (f : Mvf) (h : fs[k]? = some f) (a b : Int) : compF (fs.take (k + 1)) a b = f (compF (fs.take k) a b).1 (compF (fs.take k) a b).2 := by
  obtain ⟨hk, rfl⟩ := List.getElem?_eq_some_iff.1 h
  unfold compF
  rw [List.take_succ_eq_append_getElem hk, List.foldl_append]
  rfl
theorem near_take {fs : List Mvf} (h : ∀ f ∈ fs, Near f) (a b : Int) (h0 : 0 ≤ b) (h1 : b ≤ 100) : ∀ k, k ≤ fs.length → 0 ≤ (compF (fs.take k) a b).2 ∧ (compF (fs.take k) a b).2 ≤ 100 := by
  intro k
  induction k with
  | zero => intro _; exact ⟨h0, h1⟩
  | succ k ih =>
    intro hk
    have hf : fs[k]? = some fs[k] := List.getElem?_eq_getElem (by omega)
    rw [compF_take fs k _ hf]
    have := ih (by omega)
    exact h _ (List.getElem_mem (by omega)) _ _ this.1 this.2
def TurnInv (W : World) (fs : List Mvf) (a b : Int) (t : Value) (wr : World) : Prop :=
  ∃ k : Nat, k ≤ fs.length ∧ t = .int .i64 (k : Int) ∧ wr.heap[W.heap.size]? = some (.cells #[.int .i64 (compF (fs.take k) a b).1, .int .i64 (compF (fs.take k) a b).2] 37 (0, 0)) ∧ wr.heap[W.heap.size + 1]? = some (.cells #[.int .i64 0, .int .i64 0] 37 (0, 0)) ∧ Below W.heap.size W wr
set_option maxRecDepth 20000 in
set_option maxHeartbeats 2000000 in
theorem turn1_run {W : World} {bm m : Nat} {ga : Option Addr} {c : Nat} {vs : List Value} {fs : List Mvf} (hb : W.cell? ⟨bm, 0, none⟩ = some (.slice ga fs.length c)) (hrow : W.ownsRow 0 110 1 (.slice ga fs.length c) fs.length vs) (hM : MovesOk m W vs fs) (hn : ∀ f ∈ fs, Near f) (hl : fs.length < 1000) (a b : Int) (h0 : 0 ≤ b) (h1 : b ≤ 100) :
    Calls Tryz.prog 190 #[.agg #[.int .i64 a, .int .i64 b], ptr bm] W fun e w' => e = .returned (.agg #[.int .i64 (compF fs a b).1, .int .i64 (compF fs a b).2]) ∧ Below W.heap.size W w' := by
  have lb := World.block_lt_of_cell? W _ hb
  have H := hid (And.intro hrow (And.intro hM hn))
  have HBC := hid hb
  have hp0 : Hid ((((W.alloc (.cells #[.int .i64 a, .int .i64 b] 37)).alloc (.cells #[.int .i64 0, .int .i64 0] 37))).heap[W.heap.size]? = some (.cells #[.int .i64 a, .int .i64 b] 37 (0, 0))) := by
    show _ = _
    rw [Below.heap_alloc _ _ _ (by simp)]; exact heap_alloc_new W _
  have hp1 : Hid ((((W.alloc (.cells #[.int .i64 a, .int .i64 b] 37)).alloc (.cells #[.int .i64 0, .int .i64 0] 37))).heap[W.heap.size + 1]? = some (.cells #[.int .i64 0, .int .i64 0] 37 (0, 0))) := by
    have := heap_alloc_new (W.alloc (.cells #[.int .i64 a, .int .i64 b] 37)) (.cells #[.int .i64 0, .int .i64 0] 37)
    rwa [World.size_alloc] at this
  have hB0 : Hid (Below W.heap.size W ((W.alloc (.cells #[.int .i64 a, .int .i64 b] 37)).alloc (.cells #[.int .i64 0, .int .i64 0] 37))) := ((Below.refl _ W).alloc (Nat.le_refl _) _).alloc (by simp) _
  clear hrow hM hn
  go_enter Tryz.func190, Tryz.ntmps190
  go_wp2
  go_loopw [8] (TurnInv W fs a b) (fun t _ => leftN fs.length t)
  case atStart => exact ⟨0, Nat.zero_le _, rfl, hp0.out, hp1.out, hB0.out⟩
  case round =>
    obtain ⟨k, hk, rfl, hP, hR, hB⟩ := hrel
    have c0 := cell_of_heap hP 0
    have c1 := cell_of_heap hP 1
    have f0 := frozen_of_heap hP 0
    have f1 := frozen_of_heap hP 1
    have hpl := heap_lt hP
    have hrl := heap_lt hR
    by_cases hlt : k < fs.length
    · have hlI : (k : Int) < (fs.length : Int) := by omega
      obtain ⟨hrow, hM, hn⟩ := H.out
      have hf : fs[k]? = some fs[k] := List.getElem?_eq_getElem hlt
      obtain ⟨v, hv⟩ : ∃ v, vs[k]? = some v := ⟨_, List.getElem?_eq_getElem (by rw [hM.1]; exact hlt)⟩
      obtain ⟨gf, lbs, hve, hent, hrun⟩ := (hM.2 k v _ hv hf).runs
      subst hve
      obtain ⟨g, hg⟩ : ∃ g, ga = some ⟨g, 0, none⟩ := by
        rcases row_cases hrow with ⟨_, hl0⟩ | ⟨g, cc, hgv⟩
        · omega
        · cases hgv; exact ⟨_, rfl⟩
      subst hg
      have hgl : g < W.heap.size := (hrow.lt g rfl).2
      have cv : wr.cell? ⟨g, k, none⟩ = some (.func (.func gf) #[] lbs) := by
        rw [hB.cell (p := ⟨g, k, none⟩) hgl, hrow.cellAt k (by omega)]
        exact hv
      have hnr := near_take hn a b h0 h1 k hk
      have CM := hid (hrun (fun _ => False) wr (Keeps.of_below hB) (fun _ _ e => e) (compF (fs.take k) a b).1 (compF (fs.take k) a b).2 hnr.1 hnr.2)
      rw [← compF_take fs k _ hf a b] at CM
      obtain ⟨q0, q1, hq⟩ : ∃ q0 q1, compF (fs.take k) a b = (q0, q1) := ⟨_, _, rfl⟩
      obtain ⟨r0, r1, hr⟩ : ∃ r0 r1, compF (fs.take (k + 1)) a b = (r0, r1) := ⟨_, _, rfl⟩
      rw [hq] at CM c0 c1 hP
      rw [hr] at CM
      have HR := hid hr
      have HP := hid (And.intro hP (And.intro hR hB))
      have hgw : ¬ g = W.heap.size := by omega
      clear hrow hM hn hv hf hrun hnr hq hr hP hR hB hp0 hp1 hB0
      go_wp2_with (
        go_at_fn gf
        refine CM.out.mono ?_
        clear CM
        rintro e w1 ⟨rfl, hb1⟩
        have hP1 := (hb1.block _ hpl).trans HP.out.1
        have n0 := cell_of_heap hP1 0
        have n1 := cell_of_heap hP1 1
        have g0 := frozen_of_heap hP1 0
        have g1 := frozen_of_heap hP1 1
        have HP1 := hid hP1
        have HB1 := hid hb1
        clear hb1 hP1)
      obtain ⟨hP, hR, hB⟩ := HP.out
      have a1 := heap_setCell_same w1 _ 0 _ _ (.int .i64 r0) HP1.out
      have a2 := heap_setCell_same _ _ 1 _ _ (.int .i64 r1) a1
      have hR1 := (HB1.out.block _ (heap_lt hR)).trans hR
      refine ⟨⟨k + 1, by omega, by go_num, ?_, ?_, ?_⟩, ?_⟩
      · rw [HR.out, a2]; rfl
      · rw [Below.heap_setCell _ _ _ _ (by simp), Below.heap_setCell _ _ _ _ (by simp)]
        exact hR1
      · exact ((((Keeps.of_below (F := fun _ => False) hB).trans (Keeps.of_below HB1.out)).setCell (p := ⟨W.heap.size, 0, none⟩) (.inr (Nat.le_refl _)) _).setCell (p := ⟨W.heap.size, 1, none⟩) (.inr (Nat.le_refl _)) _).below
      · show fs.length - ((k : Int) + 1).toNat < fs.length - ((k : Int)).toNat
        omega
    · obtain rfl : k = fs.length := by omega
      have hlI : ¬ (fs.length : Int) < (fs.length : Int) := by omega
      rw [List.take_length] at hP c0 c1
      obtain ⟨q0, q1, hq⟩ : ∃ q0 q1, compF fs a b = (q0, q1) := ⟨_, _, rfl⟩
      rw [hq] at c0 c1
      have HQ := hid hq
      have r0 := cell_of_heap hR 0
      have r1 := cell_of_heap hR 1
      have rf0 := frozen_of_heap hR 0
      have rf1 := frozen_of_heap hR 1
      have HB := hid hB
      clear hP hR hB hq hp0 hp1 hB0
      go_wp2
      refine bodyPost_ret (v := .agg #[.int .i64 q0, .int .i64 q1]) (by simp [results, Tryz.results190, go_sem, *]) rfl ?_
      refine ⟨by rw [HQ.out], ?_⟩
      exact (((Keeps.of_below (F := fun _ => False) HB.out).setCell (p := ⟨W.heap.size + 1, 0, none⟩) (.inr (Nat.le_succ _)) _).setCell (p := ⟨W.heap.size + 1, 1, none⟩) (.inr (Nat.le_succ _)) _).below
set_option maxRecDepth 20000 in
set_option maxHeartbeats 1000000 in
theorem inTurn_at {w : World} {m : Nat} {ga : Option Addr} {c : Nat} {vs : List Value} {fs : List Mvf} (hrow : w.ownsRow 0 110 1 (.slice ga fs.length c) fs.length vs) (hrm : ∀ b, (Value.slice ga fs.length c).ownBlock = some b → m ≤ b) (hM : MovesOk m w vs fs) (hn : ∀ f ∈ fs, Near f) (hl : fs.length < 1000) (hmw : m ≤ w.heap.size) :
    Calls Tryz.prog 164 #[.slice ga fs.length c] w fun e w' => ∃ bs, e = .returned (.func (.func 190) #[] bs) ∧ Below w.heap.size w w' ∧ MoveOk m w' (.func (.func 190) #[] bs) (compF fs) := by
  have H := hid (And.intro hrow (And.intro hrm (And.intro hM hn)))
  clear hrow hrm hM hn
  go_enter Tryz.func164, Tryz.ntmps164
  go_wp2
  go_ret
  obtain ⟨hrow, hrm, hM, hn⟩ := H.out
  have hB : Below w.heap.size w (w.alloc (.cells #[.slice ga fs.length c] 235)) := (Below.refl _ w).alloc (Nat.le_refl _) _
  have x0 := heap_alloc_new w (.cells #[.slice ga fs.length c] 235)
  refine ⟨_, rfl, by first | exact hB | go_grown, ?_⟩
  have hk0 := Keeps.of_below (F := fun _ => False) hB
  refine ⟨_, _, rfl, enters_of Tryz.func190 (by kernel_rfl) rfl, fun G W hk hG a b hb0 hb1 => ?_⟩
  exact turn1_run (hk.cell (cell_of_heap x0 0) (hG _ hmw)) (hk.row (hk0.row hrow (fun _ _ e => e)) (fun b e => hG b (hrm b e))) ((hM.keeps hk0 (fun _ _ e => e)).keeps hk hG) hn hl a b hb0 hb1
end Go.Proofs.YtabogkonklplcaaGreatDoor

namespace Go.Proofs.YtabogkonklplcaaGreatDoor
open Go.RowKit
set_option linter.unusedSimpArgs false
set_option linter.unusedVariables false
section
variable {s : List Nd} {h : Nat → Nat} {B : Nat} {F : Nat → Prop} {bf bn cap : Nat} {pn : List PN} {w : World}
def SoFar (w : World) (bf : Nat) (acts : List Dact) (v : Value) (wr : World) : Prop :=
  ∃ (C : Nat → Prop) (cvs : List Value), wr.ownsRow 0 237 1 v acts.length cvs ∧ FnsAt wr C bf acts cvs ∧ (∀ b, C b → w.heap.size ≤ b ∧ b < wr.heap.size ∧ v.ownBlock ≠ some b) ∧ (∀ b, v.ownBlock = some b → w.heap.size ≤ b)
theorem SoFar.below {w w1 w2 : World} {bf : Nat} {acts : List Dact} {v : Value} (h : SoFar w bf acts v w1) (hb : Below w1.heap.size w1 w2) : SoFar w bf acts v w2 := by
  obtain ⟨C, cvs, h1, h2, h3, h4⟩ := h
  have hk := Keeps.of_below (F := fun _ => False) hb
  exact ⟨C, cvs, hk.row h1 (fun _ _ e => e), h2.keeps hk (fun _ _ e => e), fun b e => ⟨(h3 b e).1, Nat.lt_of_lt_of_le (h3 b e).2.1 hb.size, (h3 b e).2.2⟩, h4⟩
theorem SoFar.nil (w wr : World) (bf : Nat) : SoFar w bf [] (.slice none 0 0) wr := ⟨fun _ => False, [], World.ownsRow_nil _ _ _ _, FnsAt.nil _ _ _, fun b e => e.elim, fun b e => by cases e⟩
def DelPost (w : World) (bf : Nat) (acts : List Dact) (e : Ending) (w' : World) : Prop :=
  ∃ (ga : Option Addr) (c : Nat), e = .returned (.slice ga acts.length c) ∧ SoFar w bf acts (.slice ga acts.length c) w' ∧ Below w.heap.size w w'
def TwoPl (W0 : World) (a b c d : Int) (s5 s6 : Value) (wc : World) : Prop :=
  ∃ p q, s5 = .pointer (some ⟨p, 0, none⟩) ∧ s6 = .pointer (some ⟨q, 0, none⟩) ∧ wc.heap[p]? = some (.cells #[.int .i64 a, .int .i64 b] 37 (0, 0)) ∧ wc.heap[q]? = some (.cells #[.int .i64 c, .int .i64 d] 37 (0, 0)) ∧ Below W0.heap.size W0 wc
theorem two_allocs (W0 : World) (o1 o2 : Array Value) : ((W0.alloc (.cells o1 37)).alloc (.cells o2 37)).drew.heap[W0.heap.size]? = some (.cells o1 37 (0, 0)) ∧ ((W0.alloc (.cells o1 37)).alloc (.cells o2 37)).drew.heap[W0.heap.size + 1]? = some (.cells o2 37 (0, 0)) ∧ Below W0.heap.size W0 ((W0.alloc (.cells o1 37)).alloc (.cells o2 37)).drew := by
  refine ⟨?_, ?_, (((Below.refl _ W0).alloc (Nat.le_refl _) _).alloc (by simp) _).drew⟩
  · show ((W0.alloc (.cells o1 37)).alloc (.cells o2 37)).heap[W0.heap.size]? = _
    rw [Below.heap_alloc _ _ _ (by simp)]
    exact heap_alloc_new W0 _
  · have := heap_alloc_new (W0.alloc (.cells o1 37)) (.cells o2 37)
    rw [World.size_alloc] at this
    exact this
theorem twoPl_one (W0 : World) (a b c d : Int) {n : Nat} (hn : W0.heap.size = n) : TwoPl W0 a b c d (.pointer (some ⟨n, 0, none⟩)) (.pointer (some ⟨n + 1, 0, none⟩)) ((W0.alloc (.cells #[.int .i64 a, .int .i64 b] 37)).alloc (.cells #[.int .i64 c, .int .i64 d] 37)).drew := by
  subst hn
  obtain ⟨h1, h2, h3⟩ := two_allocs W0 #[.int .i64 a, .int .i64 b] #[.int .i64 c, .int .i64 d]
  exact ⟨_, _, rfl, rfl, h1, h2, h3⟩
theorem twoPl_two (W0 : World) (a b c d : Int) {n : Nat} (hn : W0.heap.size = n) : TwoPl W0 a b c d (.pointer (some ⟨n + 1, 0, none⟩)) (.pointer (some ⟨n, 0, none⟩)) ((W0.alloc (.cells #[.int .i64 c, .int .i64 d] 37)).alloc (.cells #[.int .i64 a, .int .i64 b] 37)).drew := by
  subst hn
  obtain ⟨h1, h2, h3⟩ := two_allocs W0 #[.int .i64 c, .int .i64 d] #[.int .i64 a, .int .i64 b]
  exact ⟨_, _, rfl, rfl, h2, h1, h3⟩
set_option maxRecDepth 20000 in
set_option maxHeartbeats 1000000 in
theorem tdeletion_one (hD : PForAt w F bf bn cap pn s) (a b d : Nat) (x : Nd) (hx : s[a]? = some x) (ht : x.t = true) :
    Calls Tryz.prog 163 #[ptr bf, spV ⟨a, b, a, d⟩] w (DelPost w bf [(a, some (b, d))]) := by
  have ha : a < s.length := (List.getElem?_eq_some_iff.1 hx).1
  have n0 := hD.nodesCell
  have hlt := hD.lt
  obtain ⟨r, hr, ho, c0, c1, c2, c3⟩ := hD.look hx
  rw [ht] at c1
  have haI : (a : Int) < (s.length : Int) := by omega
  clear hD hr ho c0 c2 c3 hx
  go_enter Tryz.func163, Tryz.ntmps163
  go_wp2
  obtain ⟨W0, hW0⟩ : ∃ W0, (w.alloc (.cells #[ptr bf] 91)).alloc (.cells #[.int .i64 (a : Int), .int .i64 (b : Int), .int .i64 (a : Int), .int .i64 (d : Int)] 79) = W0 := ⟨_, rfl⟩
  have hsz0 : W0.heap.size = w.heap.size + 2 := by rw [← hW0]; simp
  have hb0 : Below w.heap.size w W0 := by rw [← hW0]; exact ((Below.refl _ w).alloc (Nat.le_refl _) _).alloc (by simp) _
  have y0 : W0.heap[w.heap.size]? = some (.cells #[ptr bf] 91 (0, 0)) := by
    rw [← hW0, Below.heap_alloc _ _ _ (by simp), heap_alloc_new]
  have y1 : W0.heap[w.heap.size + 1]? = some (.cells #[.int .i64 (a : Int), .int .i64 (b : Int), .int .i64 (a : Int), .int .i64 (d : Int)] 79 (0, 0)) := by
    have := heap_alloc_new (w.alloc (.cells #[ptr bf] 91)) (.cells #[.int .i64 (a : Int), .int .i64 (b : Int), .int .i64 (a : Int), .int .i64 (d : Int)] 79)
    rw [World.size_alloc] at this
    rw [← hW0]; exact this
  rw [hW0]
  have s0 := cell_of_heap y1 0
  have s1 := cell_of_heap y1 1
  have s2 := cell_of_heap y1 2
  have s3 := cell_of_heap y1 3
  have hl1 := heap_lt y1
  have HY := hid (And.intro y0 (And.intro y1 hb0))
  clear y0 y1 hb0 hW0
  go_cut [5, 6] from 12 to 15 (fun s5 s6 wc => TwoPl W0 a b a d s5 s6 wc)
  case first =>
    go_region
    all_goals
      go_wp2_with fail
      go_meet
      case rel => first | exact twoPl_one W0 _ _ _ _ hsz0 | exact twoPl_two W0 _ _ _ _ hsz0
  case rest =>
    obtain ⟨p, q, rfl, rfl, hp, hq, hbc⟩ := hcut
    obtain ⟨y0, y1, hb0⟩ := HY.out
    have hbw : Below w.heap.size w wc := hb0.trans (hbc.mono hb0.size)
    have e0 := (hbw.cell (p := ⟨bf, 0, none⟩) hlt.1).trans n0
    have e1 := (hbw.cell (p := ⟨bn, a * 4 + 1, none⟩) hlt.2).trans c1
    have z0 := (hbc.block _ (heap_lt y0)).trans y0
    have g0 := cell_of_heap z0 0
    have p0 := cell_of_heap hp 0
    have p1 := cell_of_heap hp 1
    have q0 := cell_of_heap hq 0
    have q1 := cell_of_heap hq 1
    have HBW := hid hbw
    have HK := hid (And.intro hp (And.intro hq z0))
    clear hp hq z0 hbc hbw y0 y1 hb0 HY s0 s1 s2 s3 n0 c1
    go_wp2
    go_quiet (fail)
    go_wp2_with (
      go_at_call 187
      refine (cut_any bf (a : Int) (b : Int) (d : Int) _).mono ?_
      rintro e w3 ⟨rfl, hw3⟩
      have HW3 := hid hw3
      clear hw3)
    go_ret
    have hw3 := HW3.out
    have hbw := below_drewN HBW.out nq
    have hfn := cut_fn (wc.drewN nq) bf a b d
    rw [← hw3] at hfn
    have hb3 : Below (wc.drewN nq).heap.size (wc.drewN nq) w3 := by
      rw [hw3]
      exact ((((Below.refl _ _).alloc (Nat.le_refl _) _).alloc (by simp) _).alloc (by simp; omega) _).alloc (by simp; omega) _
    have hz3 : w3.heap.size = wc.heap.size + 4 := by rw [hw3]; simp
    have hz1 := HBW.out.size
    have hB3 : Below w.heap.size w w3 := hbw.trans (hb3.mono hbw.size)
    have hrow := World.ownsRow_lit (base := 0) (e := 237) (size := 1) w3 #[.func (.func 198) #[] #[ptr wc.heap.size, ptr (wc.heap.size + 1), ptr (wc.heap.size + 2), ptr (wc.heap.size + 3)]] 1 (Nat.zero_le _) (by decide) rfl
    refine ⟨some ⟨w3.heap.size, 0, none⟩, 1, rfl, ⟨fun b => wc.heap.size ≤ b ∧ b < wc.heap.size + 4, [.func (.func 198) #[] #[ptr wc.heap.size, ptr (wc.heap.size + 1), ptr (wc.heap.size + 2), ptr (wc.heap.size + 3)]], by simpa using hrow, ?_, fun k e => ⟨by omega, by simp; omega, ?_⟩, fun k e => ?_⟩, hB3.alloc hB3.size _⟩
    · have h1 := (FnsAt.nil w3 _ bf).snoc hfn
      exact h1.keeps (G := fun _ => False) ((Keeps.refl _ w3).alloc _) (fun _ _ e => e)
    · intro e1
      have e' : w3.heap.size = k := by simpa [Value.ownBlock] using e1
      omega
    · have e' : w3.heap.size = k := by simpa [Value.ownBlock] using e
      omega
end
end Go.Proofs.YtabogkonklplcaaGreatDoor
