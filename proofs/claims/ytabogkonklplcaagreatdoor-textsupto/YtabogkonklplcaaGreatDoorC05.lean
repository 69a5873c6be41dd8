import Derived.Test.YtabogkonklplcaaGreatDoorC04
import Derived.Deep.AppendLies

/- How a document of marginref's changes in memory: a node more, a field of a node, a document made. -/
namespace Go.Proofs.YtabogkonklplcaaGreatDoor
open Go.RowKit
set_option linter.unusedSimpArgs false
set_option linter.unusedVariables false

theorem row_setCell_other {w : World} {e : TypeId} {z : Nat} {v : Value} {n : Nat} {xs : List Value} (h : w.ownsRow 0 e z v n xs) {p : Addr} (hp : v.ownBlock ≠ some p.block) (u : Value) : (w.setCell p u).ownsRow 0 e z v n xs :=
  (Keeps.setCell (F := fun b => b = p.block) (Keeps.refl _ w) (.inl rfl) u).row h (fun b e1 e2 => hp (by rw [e1, e2]))

section
variable {w : World} {F : Nat → Prop} {bd bn cap : Nat} {rn : List RN} {rv : Value} {s : List Nd} {rs : List Sp}

theorem NOk.keeps {G : Nat → Prop} {w' : World} {r : RN} {x : Nd} (o : NOk w F bd bn rv r x) (hk : Keeps G w w') (hG : ∀ b, F b → b ≠ bd → b ≠ bn → ¬ G b) : NOk w' F bd bn rv r x :=
  ⟨o.t, o.p, hk.row o.chars (fun b e => hG b (o.apartC b e).1 (o.apartC b e).2.1 (o.apartC b e).2.2.1), hk.row o.kids (fun b e => hG b (o.apartK b e).1 (o.apartK b e).2.1 (o.apartK b e).2.2.1), o.apartC, o.apartK⟩

/-- What is used is there: the blocks may be counted as those that there are. -/
theorem RDocAt.narrow (h : RDocAt w F bd bn cap rn rv s rs) : RDocAt w (fun b => F b ∧ b < w.heap.size) bd bn cap rn rv s rs where
  doc := h.doc
  nodes := h.nodes
  ranges := h.ranges
  Fd := ⟨h.Fd, h.lt.1⟩
  Fn := ⟨h.Fn, h.lt.2⟩
  ne := h.ne
  apart := fun b e => ⟨⟨(h.apart b e).1, (h.ranges.lt b e).2⟩, (h.apart b e).2⟩
  len := h.len
  ok := fun i r x hr hx =>
    have o := h.ok i r x hr hx
    ⟨o.t, o.p, o.chars, o.kids, fun b e => ⟨⟨(o.apartC b e).1, (o.chars.lt b e).2⟩, (o.apartC b e).2⟩, fun b e => ⟨⟨(o.apartK b e).1, (o.kids.lt b e).2⟩, (o.apartK b e).2⟩⟩

/-- One cell of one node is written. -/
theorem RDocAt.setNode (h : RDocAt w F bd bn cap rn rv s rs) {i : Nat} {r r' : RN} {x x' : Nd} (hr : rn[i]? = some r) (hx : s[i]? = some x) (j : Nat) (hj : j < 4) (u : Value) (he : r'.cells = r.cells.set j u) (ho : NOk w F bd bn rv r' x') :
    RDocAt (w.setCell ⟨bn, i * 4 + j, none⟩ u) F bd bn cap (rn.set i r') rv (s.set i x') rs := by
  have hk : Keeps (fun b => b = bn) w (w.setCell ⟨bn, i * 4 + j, none⟩ u) := (Keeps.refl (fun b => b = bn) w).setCell (p := ⟨bn, i * 4 + j, none⟩) (.inl rfl) u
  refine ⟨?_, ?_, ?_, h.Fd, h.Fn, h.ne, h.apart, by simpa using h.len, ?_⟩
  · rw [hk.block bd (heap_lt h.doc) h.ne, List.length_set]; exact h.doc
  · have := (h.nodes.stored (i * 4 + j) u).1
    rw [cells_set rn i r r' hr j hj u he] at this
    rw [List.length_set]
    exact this
  · exact hk.row h.ranges (fun b e => (h.apart b e).2.2)
  · intro k r1 x1 h1 h2
    rw [List.getElem?_set] at h1 h2
    by_cases hik : i = k
    · subst hik
      rw [if_pos rfl] at h1 h2
      have hi := (List.getElem?_eq_some_iff.1 hr).1
      have hi' := (List.getElem?_eq_some_iff.1 hx).1
      rw [if_pos hi] at h1
      rw [if_pos hi'] at h2
      cases h1
      cases h2
      exact ho.keeps hk (fun b _ _ hb e => hb e)
    · rw [if_neg hik] at h1 h2
      exact (h.ok k r1 x1 h1 h2).keeps hk (fun b _ _ hb e => hb e)

/-- A node's children are new ones, in blocks from N on. -/
theorem RDocAt.newKids (h : RDocAt w F bd bn cap rn rv s rs) {N i : Nat} {x : Nd} {v' : Value} {ks' : List Nat} (hF : ∀ b, F b → b < N) (hx : s[i]? = some x) (hrow : w.ownsRow N 3 1 v' ks'.length (intsV ks')) :
    ∃ rn2, RDocAt (w.setCell ⟨bn, i * 4 + 2, none⟩ v') (fun b => F b ∨ N ≤ b) bd bn cap rn2 rv (s.set i { x with ks := ks' }) rs := by
  obtain ⟨r, hr, ho⟩ := h.raw hx
  have hw := h.wider (G := fun b => F b ∨ N ≤ b) (fun b e => .inl e)
  have ho2 := hw.ok i r x hr hx
  have hb := fun b e => (hrow.lt b e).1
  have h0 : w.ownsRow 0 3 1 v' ks'.length (intsV ks') := by
    refine ⟨hrow.1, ?_⟩
    rcases hrow.2 with e | ⟨g, c, cur, e, _, q⟩
    · exact .inl e
    · exact .inr ⟨g, c, cur, e, Nat.zero_le _, q⟩
  refine ⟨_, hw.setNode (r' := { r with kv := v' }) hr hx 2 (by omega) v' rfl ⟨ho2.t, ho2.p, ho2.chars, h0, ho2.apartC, fun b e => ?_⟩⟩
  have h1 := hb b e
  have h2 := hF _ h.Fd
  have h3 := hF _ h.Fn
  refine ⟨.inr h1, by omega, by omega, fun e2 => ?_⟩
  have h4 := hF _ (h.apart b e2).1
  omega

/-- A node's parent is another one. -/
theorem RDocAt.newPar (h : RDocAt w F bd bn cap rn rv s rs) {i : Nat} {x : Nd} (p : Int) (hx : s[i]? = some x) :
    ∃ rn2, RDocAt (w.setCell ⟨bn, i * 4 + 3, none⟩ (.int .i64 p)) F bd bn cap rn2 rv (s.set i { x with p := p }) rs := by
  obtain ⟨r, hr, ho⟩ := h.raw hx
  exact ⟨_, h.setNode (r' := { r with p := p }) hr hx 3 (by omega) _ rfl ⟨ho.t, rfl, ho.chars, ho.kids, ho.apartC, ho.apartK⟩⟩

/-- A node more: behind the append, and the store into the document's field. -/
theorem RDocAt.pushed (h : RDocAt w F bd bn cap rn rv s rs) {w1 : World} {g cap' B : Nat} {r : RN} {x : Nd} (hB : B ≤ w.heap.size) (hg : w.grownBy w1 (some bn))
    (ho : w1.ownsRow 0 119 4 (.slice (some ⟨g, 0, none⟩) (rn.length + 1) cap') (rn.length + 1) (rn.flatMap RN.cells ++ r.cells)) (hgn : g = bn ∨ g = w.heap.size)
    (hn : NOk w (fun b => F b ∨ B ≤ b) bd bn rv r x) :
    RDocAt (w1.setCell ⟨bd, 0, none⟩ (.slice (some ⟨g, 0, none⟩) (rn.length + 1) cap')) (fun b => F b ∨ B ≤ b) bd g cap' (rn ++ [r]) rv (s ++ [x]) rs := by
  have hlt := h.lt
  have hgd : bd ≠ g := by
    rcases hgn with e | e
    · rw [e]; exact h.ne
    · omega
  have hk1 : Keeps (fun b => b = bn) w w1 := Keeps.grown hg (fun k e => by cases e; exact .inl rfl)
  have hk : Keeps (fun b => b = bn ∨ b = bd) w (w1.setCell ⟨bd, 0, none⟩ (.slice (some ⟨g, 0, none⟩) (rn.length + 1) cap')) :=
    (hk1.mono (fun k _ e => .inl e)).setCell (p := ⟨bd, 0, none⟩) (.inl (.inr rfl)) _
  have far : ∀ b, b < w.heap.size → b ≠ bn → b ≠ g := fun b hb hbn => by
    rcases hgn with e | e
    · rw [e]; exact hbn
    · omega
  have move : ∀ {r1 : RN} {x1 : Nd}, NOk w (fun b => F b ∨ B ≤ b) bd bn rv r1 x1 → NOk (w1.setCell ⟨bd, 0, none⟩ (.slice (some ⟨g, 0, none⟩) (rn.length + 1) cap')) (fun b => F b ∨ B ≤ b) bd g rv r1 x1 := by
    intro r1 x1 o
    refine ⟨o.t, o.p, hk.row o.chars ?_, hk.row o.kids ?_, ?_, ?_⟩
    · intro b e e2
      rcases e2 with e2 | e2
      · exact (o.apartC b e).2.2.1 e2
      · exact (o.apartC b e).2.1 e2
    · intro b e e2
      rcases e2 with e2 | e2
      · exact (o.apartK b e).2.2.1 e2
      · exact (o.apartK b e).2.1 e2
    · exact fun b e => ⟨(o.apartC b e).1, (o.apartC b e).2.1, far b (o.chars.lt b e).2 (o.apartC b e).2.2.1, (o.apartC b e).2.2.2⟩
    · exact fun b e => ⟨(o.apartK b e).1, (o.apartK b e).2.1, far b (o.kids.lt b e).2 (o.apartK b e).2.2.1, (o.apartK b e).2.2.2⟩
  refine ⟨?_, ?_, ?_, .inl h.Fd, ?_, hgd, ?_, by simp [h.len], ?_⟩
  · have e1 : w1.heap[bd]? = _ := (hk1.block bd hlt.1 h.ne).trans h.doc
    rw [heap_setCell_same w1 bd 0 _ _ _ e1]
    simp
  · rw [List.length_append, List.flatMap_append]
    simpa using row_setCell_other ho (p := ⟨bd, 0, none⟩) (by simp [Value.ownBlock]; exact fun e => hgd e.symm) _
  · refine hk.row h.ranges (fun b e e2 => ?_)
    rcases e2 with e2 | e2
    · exact (h.apart b e).2.2 e2
    · exact (h.apart b e).2.1 e2
  · rcases hgn with e | e
    · rw [e]; exact .inl h.Fn
    · exact .inr (by omega)
  · exact fun b e => ⟨.inl (h.apart b e).1, (h.apart b e).2.1, far b (h.ranges.lt b e).2 (h.apart b e).2.2⟩
  · intro i r1 x1 h1 h2
    by_cases hi : i < rn.length
    · rw [List.getElem?_append_left hi] at h1
      rw [List.getElem?_append_left (by rw [← h.len]; exact hi)] at h2
      have o := h.ok i r1 x1 h1 h2
      exact move ⟨o.t, o.p, o.chars, o.kids, fun b e => ⟨.inl (o.apartC b e).1, (o.apartC b e).2⟩, fun b e => ⟨.inl (o.apartK b e).1, (o.apartK b e).2⟩⟩
    · have hi1 := (List.getElem?_eq_some_iff.1 h1).1
      simp at hi1
      have ei : i = rn.length := by omega
      subst ei
      rw [List.getElem?_append_right (Nat.le_refl _)] at h1
      rw [List.getElem?_append_right (by rw [← h.len]; exact Nat.le_refl _)] at h2
      simp at h1
      simp [h.len] at h2
      subst h1
      subst h2
      exact move hn
end

def rootNd : Nd := ⟨false, [], [], -1⟩

set_option maxHeartbeats 400000 in
theorem rnew_any (w : World) :
    Calls Tryz.prog 41 #[] w fun e w' => ∃ bd, e = .returned (.pointer (some ⟨bd, 0, none⟩)) ∧ Below w.heap.size w w' ∧ RDoc w' (fun b => w.heap.size ≤ b) bd [rootNd] [] := by
  go_enter Tryz.func41, Tryz.ntmps41
  go_wp2
  go_ret
  refine ⟨w.heap.size + 1, rfl, ((Below.refl _ w).alloc (Nat.le_refl _) _).alloc (by simp) _, w.heap.size, 1, [⟨false, .slice none 0 0, .slice none 0 0, -1⟩], .slice none 0 0, ?_⟩
  have e1 := heap_alloc_new (w.alloc (.cells #[.bool false, .slice none 0 0, .slice none 0 0, .int .i64 (-1)] 119)) (.cells #[.slice (some ⟨w.heap.size, 0, none⟩) 1 1, .slice none 0 0] 123)
  refine ⟨by simpa using e1, ?_, World.ownsRow_nil _ _ _ _, by simp, by simp, by simp, ?_, rfl, ?_⟩
  · have := (World.ownsRow_lit (base := 0) (e := 119) (size := 4) w #[.bool false, .slice none 0 0, .slice none 0 0, .int .i64 (-1)] 1 (Nat.zero_le _) (by decide) rfl).alloc (.cells #[.slice (some ⟨w.heap.size, 0, none⟩) 1 1, .slice none 0 0] 123)
    simpa [RN.cells] using this
  · intro b e; cases e
  · intro i r x h1 h2
    cases i with
    | zero =>
      simp at h1 h2
      subst h1 h2
      exact ⟨rfl, rfl, World.ownsRow_nil _ _ _ _, World.ownsRow_nil _ _ _ _, fun b e => (by cases e), fun b e => (by cases e)⟩
    | succ i => simp at h1

end Go.Proofs.YtabogkonklplcaaGreatDoor

/- marginref's Element and Text: a node more. -/
namespace Go.Proofs.YtabogkonklplcaaGreatDoor
open Go.RowKit
set_option linter.unusedSimpArgs false
set_option linter.unusedVariables false

theorem Tryz.info119 : (Tryz.prog.info? 119).map (fun i => (i.zero, i.size, i.bytes)) = some (some (.agg #[.bool false, .slice none 0 0, .slice none 0 0, .int .i64 0]), 4, 64) := by kernel_rfl

def faultV (a y : Int) : Value := .agg #[.int .i64 a, .int .i64 y]

section
variable {w : World} {F : Nat → Prop} {bd bn cap : Nat} {rn : List RN} {rv : Value} {s : List Nd} {rs : List Sp}

set_option maxHeartbeats 400000 in
theorem relement_full (hD : RDocAt w F bd bn cap rn rv s rs) (h40 : 40 ≤ s.length) :
    Calls Tryz.prog 73 #[.pointer (some ⟨bd, 0, none⟩)] w fun e w' => e = .returned (.tuple #[.int .i64 0, .agg #[.int .i64 0, .int .i64 7]]) ∧ Below w.heap.size w w' := by
  have h0 := hD.nodesCell
  have hl : bd < w.heap.size := hD.lt.1
  clear hD
  have h1 : (40 : Int) ≤ s.length := by omega
  go_enter Tryz.func73, Tryz.ntmps73
  go_wp2_with (go_at_call 48; refine (no_any _ _ _).mono ?_; rintro e w' ⟨rfl, rfl⟩)
  go_returns
  refine ⟨rfl, ?_⟩
  go_grown

set_option maxRecDepth 20000 in
set_option maxHeartbeats 400000 in
theorem relement_some (hD : RDocAt w F bd bn cap rn rv s rs) (h40 : s.length < 40) :
    Calls Tryz.prog 73 #[.pointer (some ⟨bd, 0, none⟩)] w fun e w' => e = .returned (.tuple #[.int .i64 s.length, .agg #[.int .i64 0, .int .i64 0]]) ∧ Keeps F w w' ∧ RDoc w' (fun b => F b ∨ w.heap.size ≤ b) bd (s ++ [rootNd]) rs := by
  obtain ⟨i0, hi, hz0, hz1, hz2⟩ := info_parts Tryz.info119
  have h0 := hD.nodesCell
  have hlt := hD.lt
  have hl : bd < w.heap.size := hlt.1
  have h1 : (s.length : Int) < 40 := by omega
  have hD2 : RDocAt ((w.alloc (.cells #[.int .i64 0, .int .i64 0] 32)).alloc (.cells #[.bool false, .slice none 0 0, .slice none 0 0, .int .i64 (-1)] 119)) (fun b => F b ∧ b < w.heap.size) bd bn cap rn rv s rs :=
    hD.narrow.below (((Below.refl _ w).alloc (Nat.le_refl _) _).alloc (by simp) _)
  have hrow := hD2.nodes
  have hlen := hD.len
  rw [hlen] at hrow
  clear hD
  have src : ∀ (j : Nat) (u : Value), [Value.bool false, .slice none 0 0, .slice none 0 0, .int .i64 (-1)][j]? = some u → ((w.alloc (.cells #[.int .i64 0, .int .i64 0] 32)).alloc (.cells #[.bool false, .slice none 0 0, .slice none 0 0, .int .i64 (-1)] 119)).cell? ((⟨w.heap.size + 1, 0, none⟩ : Addr).add j) = some u := by
    have := World.news_of_block (heap_alloc_new (w.alloc (.cells #[.int .i64 0, .int .i64 0] 32)) (.cells #[.bool false, .slice none 0 0, .slice none 0 0, .int .i64 (-1)] 119))
    simpa using this
  have hq2 : ((w.alloc (.cells #[.int .i64 0, .int .i64 0] 32)).alloc (.cells #[.bool false, .slice none 0 0, .slice none 0 0, .int .i64 (-1)] 119)).heap[w.heap.size]? = some (.cells #[.int .i64 0, .int .i64 0] 32 (0, 0)) := by
    rw [Below.heap_alloc _ _ _ (by simp), heap_alloc_new]
  have SRC : Hid _ := src
  have HD : Hid _ := hD2
  have HQ : Hid _ := hq2
  clear src hD2 hq2
  go_enter Tryz.func73, Tryz.ntmps73
  go_wp2_with (
    at_builtin
    refine wpList_append_lies _ rfl (.tmp 15) (.tmp 17) 120 rfl 0 119 i0 _ 4 64 Tryz.underlying120 hi hz0 hz1 hz2 rfl (by decide) (.slice (some ⟨bn, 0, none⟩) s.length cap) s.length _ rfl hrow ⟨w.heap.size + 1, 0, none⟩ 1 1 [.bool false, .slice none 0 0, .slice none 0 0, .int .i64 (-1)] rfl rfl SRC.out (by simp [Value.oneCell']) (by decide) (by unfold maxLen; omega) (by omega) (Nat.zero_le _) (w.heap.size + 1 + 1) (by simp) ?_
    intro g cap' w1 ho (hg : World.grownBy _ w1 (some bn)) (hgn : some bn = some g ∨ _) _
    go_must (have hd1 := (hg.block bd (by simp only [World.size_alloc]; omega) (by simpa using HD.out.ne)).trans HD.out.doc)
    have hc1 : w1.cell? ⟨bd, 0, none⟩ = some (.slice (some ⟨bn, 0, none⟩) rn.length cap) := cell_of_heap hd1 0
    have hf1 := frozen_of_heap hd1 0
    go_must (have hq1 := (hg.block w.heap.size (by simp only [World.size_alloc]; omega) (by simp; omega)).trans HQ.out)
    have hc2 : w1.cell? ⟨w.heap.size, 0, none⟩ = some (.int .i64 0) := cell_of_heap hq1 0
    have hc3 : w1.cell? ⟨w.heap.size, 1, none⟩ = some (.int .i64 0) := cell_of_heap hq1 1
    have hf2 := frozen_of_heap hq1 0
    have hf3 := frozen_of_heap hq1 1
    have hne : ¬ bd = w.heap.size := by omega
    have HG : Hid _ := hg
    have HO : Hid _ := ho
    have HN : Hid _ := hgn
    clear hd1 hq1 hg ho hgn)
  refine bodyPost_ret (v := .tuple #[.int .i64 s.length, .agg #[.int .i64 0, .int .i64 0]]) (by simp [results, Tryz.results73, go_sem, *]) rfl ?_
  have hk0 : Keeps F w w1 := (((Keeps.refl F w).alloc _).alloc _).trans (Keeps.grown HG.out (fun k e => by cases e; exact .inl (.inl HD.out.Fn.1)))
  refine ⟨rfl, ?_, ?_⟩
  · exact ((hk0.setCell (p := ⟨bd, 0, none⟩) (.inl HD.out.Fd.1) _).setCell (p := ⟨w.heap.size, 0, none⟩) (.inr (Nat.le_refl _)) _).setCell (p := ⟨w.heap.size, 1, none⟩) (.inr (Nat.le_refl _)) _
  · refine ⟨g, cap', rn ++ [⟨false, .slice none 0 0, .slice none 0 0, -1⟩], rv, ?_⟩
    have ho : w1.ownsRow 0 119 4 (.slice (some ⟨g, 0, none⟩) (rn.length + 1) cap') (rn.length + 1) (rn.flatMap RN.cells ++ RN.cells ⟨false, .slice none 0 0, .slice none 0 0, -1⟩) := by rw [hlen]; exact HO.out
    have hp := HD.out.pushed (B := w.heap.size + 1) (x := rootNd) (by simp only [World.size_alloc]; omega) HG.out ho (by rcases HN.out with e | e; exact .inl (by cases e; rfl); exact .inr (by simpa using e))
      ⟨rfl, rfl, World.ownsRow_nil _ _ _ _, World.ownsRow_nil _ _ _ _, fun b e => (by cases e), fun b e => (by cases e)⟩
    rw [hlen] at hp
    have hk3 : Keeps (fun b => b = w.heap.size) (w1.setCell ⟨bd, 0, none⟩ (.slice (some ⟨g, 0, none⟩) (s.length + 1) cap')) _ :=
      ((Keeps.refl (fun b => b = w.heap.size) _).setCell (p := ⟨w.heap.size, 0, none⟩) (.inl rfl) (.int .i64 0)).setCell (p := ⟨w.heap.size, 1, none⟩) (.inl rfl) (.int .i64 0)
    refine (hp.keeps hk3 ?_).wider ?_
    · intro b hb e
      rcases hb with hb | hb
      · omega
      · omega
    · intro b hb
      rcases hb with hb | hb
      · exact .inl hb.1
      · exact .inr (by omega)
end

end Go.Proofs.YtabogkonklplcaaGreatDoor
