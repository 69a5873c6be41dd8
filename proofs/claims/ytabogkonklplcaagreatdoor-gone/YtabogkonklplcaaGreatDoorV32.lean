import Derived.Test.YtabogkonklplcaaGreatDoorV28
import Derived.Test.YtabogkonklplcaaGreatDoorV27
import Derived.Test.YtabogkonklplcaaGreatDoorV20
import Derived.Test.YtabogkonklplcaaGreatDoorV21
import Derived.Test.YtabogkonklplcaaGreatDoorV17
import Derived.Test.YtabogkonklplcaaGreatDoorV11
import Derived.Stop.RegionWithIn
import Derived.Deep.RegionHeld3

namespace Go.Proofs.YtabogkonklplcaaGreatDoor
open Go.RowKit Go.Lib
set_option linter.unusedSimpArgs false
set_option linter.unusedVariables false
section
variable {w : World} {F : Nat → Prop} {bf bn cap : Nat} {pn : List PN} {s : List Nd}
theorem torder_wh (wf : WF s) {h : Nat → Nat} {B : Nat} (u : Up s h B) (hD : PForAt w F bf bn cap pn s) (n k n2 k2 t : Nat) (hn : n < s.length) (hn2 : n2 < s.length) (h1 : IsTop s n t) (h2 : IsTop s n2 t) (hk : k ≤ sizeAt s n) (hk2 : k2 ≤ sizeAt s n2) :
    Calls Tryz.prog 100 #[ptr bf, .agg #[.int .i64 (n : Int), .int .i64 (k : Int)], .agg #[.int .i64 (n2 : Int), .int .i64 (k2 : Int)]] w fun e w' => ∃ q : Int, e = .returned (.int .i64 q) ∧ decide (q ≤ 0) = decide (wh (plF s (B + 1) t) (n, k) ≤ wh (plF s (B + 1) t) (n2, k2)) ∧ Below w.heap.size w w' := by
  refine (torder_any wf hD n k n2 k2 hn hn2).mono ?_
  rintro e w' ⟨t3, t4, l, l2, wa, ta, wb, tb, rfl, hb⟩
  obtain rfl := ta.one h1
  obtain rfl := tb.one h2
  refine ⟨_, rfl, ?_, hb⟩
  rw [cmp_ways wf u wa wb hk hk2 (wh_is _ _) (wh_is _ _)]
  refine decide_eq_decide.2 ?_
  split
  · constructor <;> intro _ <;> omega
  · split
    · constructor <;> intro _ <;> omega
    · constructor <;> intro _ <;> omega
set_option maxRecDepth 20000 in
set_option maxHeartbeats 1000000 in
theorem tcovers_any (wf : WF s) {h : Nat → Nat} {B : Nat} (u : Up s h B) (hD : PForAt w F bf bn cap pn s) (a b c d n k t : Nat) (ha : a < s.length) (hc : c < s.length) (hn : n < s.length) (ta : IsTop s a t) (tc : IsTop s c t) (tn : IsTop s n t) (hb : b ≤ sizeAt s a) (hd : d ≤ sizeAt s c) (hk : k + 1 ≤ sizeAt s n) :
    Calls Tryz.prog 159 #[ptr bf, spV ⟨a, b, c, d⟩, .agg #[.int .i64 (n : Int), .int .i64 (k : Int)]] w fun e w' => e = .returned (.bool (cov (plF s (B + 1) t) a b c d n k)) ∧ Below w.heap.size w w' := by
  have C1 := hid (fun W (hB : Below w.heap.size w W) => torder_wh wf u (hD.below hB) a b n k t ha hn ta tn hb (by omega))
  have C2 := hid (fun W (hB : Below w.heap.size w W) => torder_wh wf u (hD.below hB) n (k + 1) c d t hn hc tn tc hk hd)
  have hk100 : k < 1000 := by
    have hx : s[n]? = some s[n] := List.getElem?_eq_getElem hn
    rw [sizeAt_eq hx] at hk
    have := sizeN_le wf hx
    omega
  clear hD wf u
  unfold cov
  generalize hW1 : wh (plF s (B + 1) t) (a, b) = q1
  rw [hW1] at C1
  generalize hW2 : wh (plF s (B + 1) t) (n, k) = q2
  rw [hW2] at C1
  generalize hW3 : wh (plF s (B + 1) t) (n, k + 1) = q3
  rw [hW3] at C2
  generalize hW4 : wh (plF s (B + 1) t) (c, d) = q4
  rw [hW4] at C2
  clear hW1 hW2 hW3 hW4
  have HB3 : Hid (Below w.heap.size w (((w.alloc (.cells #[.int .i64 (a : Int), .int .i64 (b : Int), .int .i64 (c : Int), .int .i64 (d : Int)] 79)).alloc (.cells #[.int .i64 (n : Int), .int .i64 (k : Int)] 37)).alloc (.cells #[.int .i64 (n : Int), .int .i64 ((k : Int) + 1)] 37))) :=
    (((Below.refl _ w).alloc (Nat.le_refl _) _).alloc (by simp) _).alloc (by simp only [World.size_alloc]; omega) _
  have hx0 : (((w.alloc (.cells #[.int .i64 (a : Int), .int .i64 (b : Int), .int .i64 (c : Int), .int .i64 (d : Int)] 79)).alloc (.cells #[.int .i64 (n : Int), .int .i64 (k : Int)] 37)).alloc (.cells #[.int .i64 (n : Int), .int .i64 ((k : Int) + 1)] 37)).heap[w.heap.size]? = some (.cells #[.int .i64 (a : Int), .int .i64 (b : Int), .int .i64 (c : Int), .int .i64 (d : Int)] 79 (0, 0)) := by
    rw [Below.heap_alloc _ _ _ (by simp only [World.size_alloc]; omega), Below.heap_alloc _ _ _ (by simp), heap_alloc_new]
  have hx2 : (((w.alloc (.cells #[.int .i64 (a : Int), .int .i64 (b : Int), .int .i64 (c : Int), .int .i64 (d : Int)] 79)).alloc (.cells #[.int .i64 (n : Int), .int .i64 (k : Int)] 37)).alloc (.cells #[.int .i64 (n : Int), .int .i64 ((k : Int) + 1)] 37)).heap[w.heap.size + 1 + 1]? = some (.cells #[.int .i64 (n : Int), .int .i64 ((k : Int) + 1)] 37 (0, 0)) := by
    have := heap_alloc_new ((w.alloc (.cells #[.int .i64 (a : Int), .int .i64 (b : Int), .int .i64 (c : Int), .int .i64 (d : Int)] 79)).alloc (.cells #[.int .i64 (n : Int), .int .i64 (k : Int)] 37)) (.cells #[.int .i64 (n : Int), .int .i64 ((k : Int) + 1)] 37)
    simpa using this
  have HX0 := hid hx0
  have HX2 := hid hx2
  have C1' := hid (C1.out _ HB3.out)
  clear hx0 hx2 C1
  by_cases h12 : q1 ≤ q2
  · rw [decide_eq_true h12] at C1' ⊢
    rw [Bool.true_and]
    go_enter Tryz.func159, Tryz.ntmps159
    go_wp2_with (first
      | (go_at_call 100
         refine C1'.out.mono ?_
         clear C1'
         rintro e w1 ⟨r1, rfl, hr1, hb1⟩
         have hy0 := (hb1.block _ (heap_lt HX0.out)).trans HX0.out
         have hy2 := (hb1.block _ (heap_lt HX2.out)).trans HX2.out
         have y0 := cell_of_heap hy0 2
         have y1 := cell_of_heap hy0 3
         have y2 := cell_of_heap hy2 0
         have y3 := cell_of_heap hy2 1
         have HB4 := hid (HB3.out.trans (hb1.mono HB3.out.size))
         clear hb1 hy0 hy2)
      | (go_at_call 100
         refine (C2.out _ HB4.out).mono ?_
         rintro e w2 ⟨r2, rfl, hr2, hb2⟩
         have HB5 := hid (HB4.out.trans (hb2.mono HB4.out.size))
         clear hb2))
    go_ret
    exact ⟨rfl, HB5.out⟩
  · rw [decide_eq_false h12] at C1' ⊢
    rw [Bool.false_and]
    go_enter Tryz.func159, Tryz.ntmps159
    go_wp2_with (
         go_at_call 100
         refine C1'.out.mono ?_
         clear C1'
         rintro e w1 ⟨r1, rfl, hr1, hb1⟩
         have HB4 := hid (HB3.out.trans (hb1.mono HB3.out.size))
         clear hb1)
    go_ret
    exact ⟨rfl, HB4.out⟩
end
end Go.Proofs.YtabogkonklplcaaGreatDoor

namespace Go.Proofs.YtabogkonklplcaaGreatDoor
open Go.RowKit Go.Shelf
set_option linter.unusedSimpArgs false
set_option linter.unusedVariables false
attribute [local go_sem] Oper.semAt_some
theorem pk_mem {cs : List ByteArray} {c : Nat → Bool} {k : Nat} {x : ByteArray} (h : x ∈ pk cs c k) : x ∈ cs := by
  unfold pk at h
  obtain ⟨b, _, hb⟩ := List.mem_flatMap.1 h
  split at hb
  · cases e : cs[b]? with
    | none => rw [e] at hb; simp at hb
    | some y => rw [e] at hb; simp at hb; subst hb; exact List.mem_of_getElem? e
  · simp at hb
theorem pk_len (cs : List ByteArray) (c : Nat → Bool) (k : Nat) : (pk cs c k).length ≤ k := by
  induction k with
  | zero => simp [pk]
  | succ k ih =>
    rw [pk_succ, List.length_append]
    have : (if c k then cs[k]?.toList else []).length ≤ 1 := by
      split
      · cases cs[k]? <;> simp
      · simp
    omega
theorem readP_ch {s : List Nd} (wf : WF s) (L : List (Nat × Nat)) (a b c d : Nat) (ns : List Nat) : ∀ x ∈ readP s L a b c d ns, IsCh x := by
  intro x hx
  obtain ⟨n, _, hx⟩ := List.mem_flatMap.1 hx
  have hx := pk_mem hx
  unfold csOf at hx
  split at hx
  · rename_i y hy
    exact (wf.chars n y hy).2 x hx
  · simp at hx
theorem readP_len {s : List Nd} (wf : WF s) (L : List (Nat × Nat)) (a b c d : Nat) (ns : List Nat) : (readP s L a b c d ns).length ≤ 30 * ns.length := by
  induction ns with
  | nil => simp [readP]
  | cons n ns ih =>
    have e : readP s L a b c d (n :: ns) = pk (csOf s n) (cov L a b c d n) (csOf s n).length ++ readP s L a b c d ns := by simp [readP]
    have h1 := pk_len (csOf s n) (cov L a b c d n) (csOf s n).length
    have h2 : (csOf s n).length ≤ 30 := by
      unfold csOf
      split
      · rename_i y hy
        exact (wf.chars n y hy).1
      · simp
    rw [e, List.length_append, List.length_cons]
    omega
theorem readP_snoc (s : List Nd) (L : List (Nat × Nat)) (a b c d : Nat) (ns : List Nat) (n : Nat) : readP s L a b c d (ns ++ [n]) = readP s L a b c d ns ++ pk (csOf s n) (cov L a b c d n) (csOf s n).length := by simp [readP]
theorem keeps_iterAt {F : Nat → Prop} {a w : World} (h : Keeps F a w) {k : Nat} (hk : F k ∨ a.heap.size ≤ k) (z : ByteArray) (q : Nat) : Keeps F a (w.iterAt k z q) :=
  h.trans ⟨rfl, rfl, rfl, by rw [Lib.iterAt_size]; exact Nat.le_refl _, fun j hj hF => Lib.iterAt_other w k j z q (fun e => hF (by rw [e]; exact hk))⟩
theorem cat_rune (l : List ByteArray) (h : ∀ c ∈ l, IsCh c) (k : Nat) (c : ByteArray) (hk : l[k]? = some c) :
    ∃ R : Nat, Utf8.decode (catB l) (catB (l.take k)).size = (R, c.size) ∧ Lib.runeCells (R : Int) = Lib.strCells c ∧ R ≤ 2147483647 ∧ (catB (l.take k)).size < (catB l).size ∧ (catB (l.take (k + 1))).size = (catB (l.take k)).size + c.size := by
  obtain ⟨hkl, rfl⟩ := List.getElem?_eq_some_iff.1 hk
  have e : l = l.take k ++ l[k] :: l.drop (k + 1) := by rw [List.getElem_cons_drop, List.take_append_drop]
  obtain ⟨R, h1, h2, h3, h4, h5⟩ := decode_place (l.take k) l[k] (l.drop (k + 1)) (h _ (List.getElem_mem hkl))
  rw [← e] at h1 h4
  exact ⟨R, h1, h2, h3, h4, by rw [List.take_succ_eq_append_getElem hkl]; exact h5⟩
def RdInv (bo bp : Nat) (n : Nat) (cs out : List ByteArray) (c : Nat → Bool) (O : Nat → Prop) (W wr : World) : Prop :=
  ∃ (k : Nat) (v : Value), k ≤ cs.length ∧ wr.heap[bp]? = some (.cells #[.int .i64 (n : Int), .int .i64 (k : Int)] 37 (0, 0)) ∧ wr.heap[bp + 1]? = some (.stringIter (catB cs) (catB (cs.take k)).size) ∧
    BldV bo v (Lib.strCells (catB (out ++ pk cs c k))) wr ∧ Keeps O W wr ∧ (∀ j, v.ownBlock = some j → O j ∨ W.heap.size ≤ j) ∧ v.ownBlock ≠ some bp
set_option maxRecDepth 20000 in
set_option maxHeartbeats 4000000 in
theorem tread_any {s : List Nd} (wf : WF s) {h : Nat → Nat} {B : Nat} (u : Up s h B) {F : Nat → Prop} {bf bn cap : Nat} {pn : List PN} {w : World} (hD : PForAt w F bf bn cap pn s) (a b c d t : Nat) (ha : a < s.length) (hc : c < s.length) (ta : IsTop s a t) (tc : IsTop s c t) (hb : b ≤ sizeAt s a) (hd : d ≤ sizeAt s c) :
    Calls Tryz.prog 112 #[ptr bf, spV ⟨a, b, c, d⟩] w fun e w' => e = .returned (.string (catB (readP s (plF s (B + 1) t) a b c d (allF s (B + 1) t)))) ∧ Below w.heap.size w w' := by
  have HD := hid hD.narrow
  clear hD
  refine callsIn_wide.1 (callsIn_of_wp_marks (F := Fence.wide) (n := 1) Tryz.func112 rfl trivial ?_ rfl)
  simp only [Tryz.ntmps112, List.size_toArray, List.length_cons, List.length_nil, Nat.reduceAdd, Nat.reduceSub, Array.replicate_succ, Array.replicate_zero, List.push_toArray, List.append_toArray, List.nil_append, List.cons_append]
  have C := hid (fun (W : World) => all_any bf t W)
  have CT := hid (fun (W : World) (hb : Below w.heap.size w W) => ttop_at wf (HD.out.below hb) ta ha)
  gi_wp2
  obtain ⟨w0, hw0⟩ : ∃ w0, ((w.alloc (.cells #[ptr bf] 91)).alloc (.cells #[.int .i64 (a : Int), .int .i64 (b : Int), .int .i64 (c : Int), .int .i64 (d : Int)] 79)).alloc (.cells #[.pointer none, .slice none 0 0] 219) = w0 := ⟨_, rfl⟩
  have hb0 : Below w.heap.size w w0 := by rw [← hw0]; exact (((Below.refl _ w).alloc (Nat.le_refl _) _).alloc (by simp) _).alloc (by simp only [World.size_alloc]; omega) _
  have hsz0 : w0.heap.size = w.heap.size + 3 := by rw [← hw0]; simp
  have y0 : w0.heap[w.heap.size]? = some (.cells #[ptr bf] 91 (0, 0)) := by
    rw [← hw0, Below.heap_alloc _ _ _ (by simp only [World.size_alloc]; omega), Below.heap_alloc _ _ _ (by simp), heap_alloc_new]
  have y1 : w0.heap[w.heap.size + 1]? = some (.cells #[.int .i64 (a : Int), .int .i64 (b : Int), .int .i64 (c : Int), .int .i64 (d : Int)] 79 (0, 0)) := by
    rw [← hw0, Below.heap_alloc _ _ _ (by simp)]
    have := heap_alloc_new (w.alloc (.cells #[ptr bf] 91)) (.cells #[.int .i64 (a : Int), .int .i64 (b : Int), .int .i64 (c : Int), .int .i64 (d : Int)] 79)
    rwa [World.size_alloc] at this
  have y2 : w0.heap[w.heap.size + 2]? = some (.cells #[.pointer none, .slice none 0 0] 219 (0, 0)) := by
    rw [← hw0]
    have := heap_alloc_new ((w.alloc (.cells #[ptr bf] 91)).alloc (.cells #[.int .i64 (a : Int), .int .i64 (b : Int), .int .i64 (c : Int), .int .i64 (d : Int)] 79)) (.cells #[.pointer none, .slice none 0 0] 219)
    rwa [World.size_alloc, World.size_alloc] at this
  rw [hw0]
  have e0 : w0.cell? ⟨w.heap.size, 0, none⟩ = some (ptr bf) := cell_of_heap y0 0
  have e1 : w0.cell? ⟨w.heap.size + 1, 0, none⟩ = some (.int .i64 (a : Int)) := cell_of_heap y1 0
  have HH := hid (And.intro hb0 (And.intro hsz0 (And.intro y0 (And.intro y1 (And.intro y2 hw0)))))
  clear hb0 hsz0 y0 y1 y2 hw0
  refine wpIn_wide.2 ?_
  go_region_held3 (fun w' => w'.cell? ⟨w.heap.size, 0, none⟩ = some (ptr bf) ∧ w'.cell? ⟨w.heap.size + 1, 0, none⟩ = some (.int .i64 (a : Int))) (first | exact KP.out | go_keep) (first
    | (go_at_call 99; refine (CT.out _ (by first | exact HH.out.1 | exact HH.out.1.drew)).mono ?_; rintro e w3 ⟨rfl, hw3⟩; replace hw3 := hw3.symm; subst hw3)
    | (go_at_call 90; refine (C.out _).mono ?_; rintro e w3 ⟨rfl, hw3⟩; replace hw3 := hw3.symm; subst hw3))
  all_goals
    gi_wp2
    obtain ⟨wb, hwb⟩ : ∃ wb, ((w0.alloc (.cells #[ptr bf] 91)).alloc (.cells #[.int .i64 (t : Int)] 3)).drew = wb := ⟨_, rfl⟩
    obtain ⟨hb0, hsz0, y0, y1, y2, _⟩ := HH.out
    have hszb : wb.heap.size = w.heap.size + 5 := by rw [← hwb]; simp [hsz0]
    have hb1 : Below w0.heap.size w0 wb := by rw [← hwb]; exact (((Below.refl _ w0).alloc (Nat.le_refl _) _).alloc (by simp) _).drew
    have hbb : Below w.heap.size w wb := hb0.trans (hb1.mono hb0.size)
    have x0 : wb.heap[w.heap.size]? = some (.cells #[ptr bf] 91 (0, 0)) := (hb1.block _ (heap_lt y0)).trans y0
    have x1 : wb.heap[w.heap.size + 1]? = some (.cells #[.int .i64 (a : Int), .int .i64 (b : Int), .int .i64 (c : Int), .int .i64 (d : Int)] 79 (0, 0)) := (hb1.block _ (heap_lt y1)).trans y1
    have x2 : wb.heap[w.heap.size + 2]? = some (.cells #[.pointer none, .slice none 0 0] 219 (0, 0)) := (hb1.block _ (heap_lt y2)).trans y2
    have x3 : wb.heap[w0.heap.size]? = some (.cells #[ptr bf] 91 (0, 0)) := by
      have h1 : ((w0.alloc (.cells #[ptr bf] 91)).alloc (.cells #[.int .i64 (t : Int)] 3)).heap[w0.heap.size]? = some (.cells #[ptr bf] 91 (0, 0)) := by
        rw [Below.heap_alloc _ _ _ (by simp)]
        exact heap_alloc_new w0 _
      rw [← hwb]; exact h1
    have x4 : wb.heap[w0.heap.size + 1]? = some (.cells #[.int .i64 (t : Int)] 3 (0, 0)) := by
      have h1 := heap_alloc_new (w0.alloc (.cells #[ptr bf] 91)) (.cells #[.int .i64 (t : Int)] 3)
      rw [World.size_alloc] at h1
      rw [← hwb]; exact h1
    rw [hwb]
    rw [hsz0] at x3 x4
    simp only [hsz0]
    have hDb := HD.out.below hbb
    have hHt := u.le t
    refine range_mine (gf := 138) (lb := #[ptr (w.heap.size + 3 + 1), ptr (w.heap.size + 3)]) rfl (enters_of Tryz.func138 (by kernel_rfl) rfl) rfl (O := fun k => k = w.heap.size + 2) (fun k e => by omega)
      (all1_ok wf u (B + 1) t ta.lt (by omega) wb _ _ _ hDb (fun k hk => ⟨by have := hk.2; omega, by have := hk.2; omega⟩) (cell_of_heap x4 0) (cell_of_heap x3 0) (by omega) (by omega))
      (fun pre O3 W => ∃ v, O3 = (fun k => k = w.heap.size + 2 ∨ v.ownBlock = some k) ∧ BldV (w.heap.size + 2) v (Lib.strCells (catB (readP s (plF s (B + 1) t) a b c d pre))) W ∧ Stp (fun k => k = w.heap.size + 2) O3 wb W)
      (fun _ _ _ => False) ?mI ?mIx ?h0
      (fun y => Act.mk #[ptr bf, spV { a := a, b := b, c := c, d := d }, Value.pointer (some { block := w.heap.size, off := 0 }),
          Value.pointer (some { block := w.heap.size + 1, off := 0 }), Value.string { data := #[] },
          Value.pointer (some { block := w.heap.size + 1 + 1, off := 0 }), .int .i64 (y : Int), undef, undef, undef, ptr bf,
          ptr bf, Value.pointer (some { block := w.heap.size + 1, off := 0 }),
          Value.pointer (some { block := w.heap.size + 1, off := 0 }), Value.int IntKind.i64 a, Value.int IntKind.i64 t,
          Value.func (Fn.func 138) #[] #[ptr (w.heap.size + 3 + 1), ptr (w.heap.size + 3)], .int .i64 (y : Int), undef, undef, undef, undef, undef, undef, undef, undef, undef, undef, undef, undef, undef, undef, undef, undef, undef, undef, undef, undef, undef, undef, undef, undef, undef] []) ?assign ?body ?done ?stop
    case mI =>
      rintro pre O3 X Y ⟨v, rfl, h1, h2⟩ hk
      exact ⟨v, rfl, h1.keeps hk (fun e => e.1 (.inl rfl)) (fun k e e2 => e2.1 (.inr e)), stp_mine (Nat.le_refl _) h2 hk⟩
    case mIx => intro pre O3 X Y h _; exact h
    case h0 =>
      refine ⟨.slice none 0 0, ?_, ⟨.inl x2, World.ownsRow_nil _ _ _ _, fun e => by cases e⟩, ?_⟩
      · funext k; simp [Value.ownBlock]
      · exact Stp.refl (fun k e => by omega)
    case assign =>
      intro m l' y W K hK
      dsimp only [encN]
      gi_wp2
      exact hK
    case body =>
      rintro m l' pre y O3 W hpre hO3 ⟨v, rfl, h1, h2⟩
      have hyall : y ∈ allF s (B + 1) t := hpre.subset (by simp)
      have hyl : y < s.length := all_lt wf (B + 1) t ta.lt y hyall
      obtain ⟨x, hx⟩ : ∃ x, s[y]? = some x := ⟨_, List.getElem?_eq_getElem hyl⟩
      have hch := wf.chars y x hx
      have hty : IsTop s y t := ⟨all_climb wf (B + 1) t y hyall, ta.2⟩
      have hpl : pre.length + 1 ≤ 40 := by
        have h3 := hpre.length_le
        have h4 := all_length wf (B + 1) t ta.lt
        simp at h3
        omega
      have hO3' : ∀ k, (k = w.heap.size + 2 ∨ v.ownBlock = some k) → ¬ k < w.heap.size + 2 := fun k e => by
        rcases h2.gains k e with e1 | e1 <;> omega
      have hDW := hDb.keeps h2.keeps (fun k hk e => by have := hk.2; omega)
      have g0 : W.cell? ⟨w.heap.size, 0, none⟩ = some (ptr bf) := h2.keeps.cell (cell_of_heap x0 0) (by simp)
      have z1 : W.heap[w.heap.size + 1]? = some (.cells #[.int .i64 (a : Int), .int .i64 (b : Int), .int .i64 (c : Int), .int .i64 (d : Int)] 79 (0, 0)) := by
        rw [h2.keeps.block _ (heap_lt x1) (by simp)]; exact x1
      have z0 : W.heap[w.heap.size]? = some (.cells #[ptr bf] 91 (0, 0)) := by
        rw [h2.keeps.block _ (heap_lt x0) (by simp)]; exact x0
      obtain ⟨r, hr, ho, d0, d1, d2, d3⟩ := hDW.look hx
      have n0 := hDW.nodesCell
      have hcov := fun (k : Nat) (hk : k < x.cs.length) (Wr : World) (hkp : Keeps (fun k => k = w.heap.size + 2 ∨ v.ownBlock = some k) W Wr) =>
        tcovers_any (w := Wr) wf u (hDW.keeps hkp (fun k hk e => hO3' k e (by have := hk.2; omega))) a b c d y k t ha hc hyl ta tc hty hb hd (by
          have ht : x.t = true := by
            cases e : x.t with
            | true => rfl
            | false => rw [(wf.elem y x hx).2 e] at hk; simp at hk
          rw [sizeAt_eq hx, sizeN_text ht]; omega)
      have hcs : csOf s y = x.cs := csOf_eq hx
      have hrl : (readP s (plF s (B + 1) t) a b c d pre).length ≤ 1170 := by
        have := readP_len wf (plF s (B + 1) t) a b c d pre
        omega
      have hrc := readP_ch wf (plF s (B + 1) t) a b c d pre
      have hsn := readP_snoc s (plF s (B + 1) t) a b c d pre y
      rw [hcs] at hsn
      obtain ⟨out, hout⟩ : ∃ out, readP s (plF s (B + 1) t) a b c d pre = out := ⟨_, rfl⟩
      rw [hout] at h1 hrl hrc hsn
      obtain ⟨cf, hcf⟩ : ∃ cf, cov (plF s (B + 1) t) a b c d y = cf := ⟨_, rfl⟩
      rw [hcf] at hcov hsn
      have hlW : W.heap.size ≥ w.heap.size + 5 := by have := h2.keeps.size; omega
      have hlen : ∀ k, k ≤ x.cs.length → (Lib.strCells (catB (out ++ pk x.cs cf k))).length < lots := by
        intro k hk
        have h5 := pk_len x.cs cf k
        have h6 := cat_size (out ++ pk x.cs cf k) (fun z hz => by
          rcases List.mem_append.1 hz with hz | hz
          · exact hrc z hz
          · exact hch.2 z (pk_mem hz))
        rw [List.length_append] at h6
        rw [Lib.strCells_length]
        unfold lots
        have := hch.1
        omega
      have hbo := h1.lt
      have hfl := hDW.lt
      have q0 : ¬ w.heap.size = W.heap.size := by omega
      have q1 : ¬ bf = W.heap.size := by omega
      have q2 : ¬ bn = W.heap.size := by omega
      have q3 : w.heap.size < W.heap.size := by omega
      have hvl : ∀ k, v.ownBlock = some k → k < W.heap.size := fun k e => hO3 k (.inr e)
      have G := hid (And.intro h1 (And.intro hO3 (And.intro hO3' (And.intro z0 (And.intro z1 (And.intro hcov (And.intro hsn (And.intro hlen (And.intro hch.2 (And.intro h2 hvl))))))))))
      have hcl := hch.1
      have hylI : (y : Int) < (s.length : Int) := by omega
      clear h1 hO3 hO3' z0 z1 hcov hsn hlen hch h2 hvl hDW d0 d1 d2 hr ho hpre hyall hty x0 x1 x2 x3 x4 hDb hb1 y0 y1 y2 hb0 hwb hcs hrl hrc hout hcf hx hszb hHt hsz0 HH HD C CT e0 e1 wf u ta tc ha hc hb hd hpl
      generalize x.cs = cs at *
      gi_wp2
      gi_loopw [9] (fun _ wr => RdInv (w.heap.size + 2) W.heap.size y cs out cf (fun k => k = w.heap.size + 2 ∨ v.ownBlock = some k) W wr) (fun _ wr => (catB cs).size - wr.iterPos (W.heap.size + 1))
      case atStart =>
        obtain ⟨h1, hO3, hO3', z0, z1, hcov, hsn, hlen, hch, h2, hvl⟩ := G.out
        refine ⟨0, v, Nat.zero_le _, ?_, ?_, ?_, ((Keeps.refl _ W).alloc _).alloc _, fun k e => .inl (.inr e), fun e => by have := hvl _ e; omega⟩
        · show ((W.alloc (.cells #[.int .i64 (y : Int), .int .i64 0] 37)).alloc (.stringIter (catB cs) 0)).heap[W.heap.size]? = _
          rw [Below.heap_alloc _ _ _ (by simp)]
          exact heap_alloc_new W _
        · have := heap_alloc_new (W.alloc (.cells #[.int .i64 (y : Int), .int .i64 0] 37)) (.stringIter (catB cs) 0)
          rw [World.size_alloc] at this
          exact this
        · rw [pk_zero, List.append_nil]
          exact h1.keeps (F := fun _ => False) (((Keeps.refl _ W).alloc _).alloc _) (fun e => e) (fun _ _ e => e)
      case round =>
        obtain ⟨h1, hO3, hO3', z0, z1, hcov, hsn, hlen, hch, h2, hvl⟩ := G.out
        obtain ⟨k, v', hk, hp, hi, hbv, hkp, hg, hne⟩ := hrel
        have hbpl := heap_lt hp
        have hbil := heap_lt hi
        by_cases hlt : k < cs.length
        · obtain ⟨ch, hchk⟩ : ∃ ch, cs[k]? = some ch := ⟨_, List.getElem?_eq_getElem hlt⟩
          obtain ⟨R, hd, hR, hR1, hp3, hsz⟩ := cat_rune cs hch k ch hchk
          have hch0 : ch.size ≠ 0 := (hch ch (List.mem_of_getElem? hchk)).1
          have hnx := fun ty => Lib.run_next_any_at (P := Tryz.prog) _ (W.heap.size + 1) (catB cs) _ ty hi hp3
          rw [hd] at hnx
          simp only at hnx
          obtain ⟨q, hq⟩ : ∃ q, (catB (cs.take k)).size = q := ⟨_, rfl⟩
          rw [hq] at hnx hi hp3 hsz
          have hi2 := Lib.iterAt_heap wr (W.heap.size + 1) (catB cs) _ (q + ch.size) hi
          have hki : Keeps (fun k => k = W.heap.size + 1) wr (wr.iterAt (W.heap.size + 1) (catB cs) (q + ch.size)) := keeps_iterAt (Keeps.refl (fun k => k = W.heap.size + 1) wr) (k := W.heap.size + 1) (.inl rfl) _ _
          have hkp2 := keeps_iterAt hkp (k := W.heap.size + 1) (.inr (by omega)) (catB cs) (q + ch.size)
          have hbv2 : BldV (w.heap.size + 2) v' (Lib.strCells (catB (out ++ pk cs cf k))) (wr.iterAt (W.heap.size + 1) (catB cs) (q + ch.size)) := by
            refine hbv.keeps hki (by omega) (fun j e e2 => ?_)
            subst e2
            obtain ⟨_, ho2, _⟩ := hbv
            rcases ho2.2 with ⟨hv, _⟩ | ⟨g, cap', cur, hv, _, hh, _⟩
            · rw [hv] at e; cases e
            · rw [hv] at e
              cases e
              rw [hi] at hh; cases hh
          have hp2 : (wr.iterAt (W.heap.size + 1) (catB cs) (q + ch.size)).heap[W.heap.size]? = some (.cells #[.int .i64 (y : Int), .int .i64 (k : Int)] 37 (0, 0)) := by
            rw [hki.block _ hbpl (by omega)]; exact hp
          have zz1 := (hkp2.block _ (heap_lt z1) (fun e => hO3' _ e (by omega))).trans z1
          have zz0 := (hkp2.block _ (heap_lt z0) (fun e => hO3' _ e (by omega))).trans z0
          obtain ⟨wi, hwi⟩ : ∃ wi, wr.iterAt (W.heap.size + 1) (catB cs) (q + ch.size) = wi := ⟨_, rfl⟩
          rw [hwi] at hi2 hki hkp2 hbv2 hp2 zz1 zz0 hnx
          have CC := hid (hcov k hlt wi hkp2)
          have cp0 := cell_of_heap hp2 0
          have cp1 := cell_of_heap hp2 1
          have c00 := cell_of_heap zz0 0
          have c10 := cell_of_heap zz1 0
          have c11 := cell_of_heap zz1 1
          have c12 := cell_of_heap zz1 2
          have c13 := cell_of_heap zz1 3
          have IP := iterPos_of hi
          have hwil : wi.heap.size = wr.heap.size := by rw [← hwi, Lib.iterAt_size]
          have hlen2 := hlen k hk
          have hsz1 : (catB cs).size - (q + ch.size) < (catB cs).size - q := by omega
          have H := hid (And.intro hi2 (And.intro hkp2 (And.intro hbv2 (And.intro hp2 (And.intro hg (And.intro hne (And.intro hsz (And.intro hlen2 (And.intro hR hchk)))))))))
          have HWI := hid hwi
          have HG := hid (And.intro hO3' hvl)
          clear hi2 hkp2 hbv2 hp2 hg hne hsz hlen2 hR hchk h1 hO3 hO3' z0 z1 hcov hsn hlen hch h2 hvl hp hi hbv hkp hki zz0 zz1 hd hwi hp3 hq
          cases hck : cf k with
          | true =>
            rw [hck] at CC
            gi_wp2_with (first
              | (refine ⟨trivial, fun h => by simp [Fence.wide] at h, ?_⟩
                 gi_at_call 159
                 refine (CallsIn.inRound l' (callsIn_wide.2 CC.out)).mono ?_
                 rintro e w6 ⟨rfl, hb6⟩
                 obtain ⟨hi2, hkp2, hbv2, hp2, hg, hne, hsz, hlen2, hR, hchk⟩ := H.out
                 have hk6 : Keeps (fun _ => False) wi w6 := Keeps.of_below hb6
                 have CR := hid (bruneV (R : Int) (by omega) (by omega) (hbv2.keeps hk6 (fun e => e) (fun _ _ e => e)) hlen2)
                 rw [hR] at CR
                 have H6 := hid hk6
                 have hs6 := hb6.size
                 clear hi2 hkp2 hbv2 hp2 hg hne hsz hlen2 hR hchk hk6 hb6)
              | (refine ⟨trivial, fun h => by simp [Fence.wide] at h, ?_⟩
                 gi_at_call 160
                 refine (CallsIn.inRound l' (callsIn_wide.2 CR.out)).mono ?_
                 rintro e w7 ⟨n7, v7, rfl, hbv7, hk7, hg7, hi7⟩
                 obtain ⟨hi2, hkp2, hbv2, hp2, hg, hne, hsz, hlen2, hR, hchk⟩ := H.out
                 have hp6 := (H6.out.block _ (heap_lt hp2) (fun e => e)).trans hp2
                 have hp7 := (hk7.block _ (heap_lt hp6) (fun e => e.elim (fun e => by omega) (fun e => hne e))).trans hp6
                 have cq1 := cell_of_heap hp7 1
                 have cf1 := frozen_of_heap hp7 1
                 have H7 := hid (And.intro hbv7 (And.intro hk7 (And.intro hg7 (And.intro hi7 hp7))))
                 clear hi2 hkp2 hbv2 hp2 hg hne hsz hlen2 hR hchk hp6 hp7 hbv7 hk7 hg7 hi7))
            obtain ⟨hi2, hkp2, hbv2, hp2, hg, hne, hsz, hlen2, hR, hchk⟩ := H.out
            obtain ⟨hbv7, hk7, hg7, hi7, hp7⟩ := H7.out
            have hi8 : (w7.setCell ⟨W.heap.size, 1, none⟩ (.int .i64 ((k : Int) + 1))).heap[W.heap.size + 1]? = some (.stringIter (catB cs) (q + ch.size)) :=
              IterKept.setCell _ hp7 _ _ _ (hi7 _ _ _ ((H6.out.block _ (heap_lt hi2) (fun e => e)).trans hi2))
            have hkS := (Keeps.refl (fun j => j = W.heap.size) w7).setCell (p := ⟨W.heap.size, 1, none⟩) (.inl rfl) (.int .i64 ((k : Int) + 1))
            have hne7 : v7.ownBlock ≠ some W.heap.size := fun e => by
              rcases hg7 _ e with e1 | e1
              · exact hne e1
              · omega
            go_roundw
            case rel =>
              refine ⟨k + 1, v7, by omega, ?_, by rw [hsz]; exact hi8, ?_, ?_, ?_, hne7⟩
              · rw [heap_setCell_same w7 _ 1 _ _ _ hp7]; rfl
              · have := hbv7.keeps hkS (by omega) (fun j e e2 => hne7 (e2 ▸ e))
                have e1 : catB [ch] = ch := by show ByteArray.empty ++ ch = ch; simp
                rw [pk_succ, hck, if_pos rfl, hchk, ← List.append_assoc, catB_append, strCells_append, Option.toList_some, e1]
                exact this
              · refine (((hkp2.trans (H6.out.mono (fun j _ e => e.elim))).trans (hk7.mono (fun j _ e => ?_))).setCell (p := ⟨W.heap.size, 1, none⟩) (.inr (Nat.le_refl _)) _)
                rcases e with e | e
                · exact .inl (.inl e)
                · exact hg j e
              · intro j e
                rcases hg7 j e with e1 | e1
                · exact hg j e1
                · exact .inr (by omega)
            case measure =>
              rw [iterPos_of hi8, IP]
              exact hsz1
          | false =>
            rw [hck] at CC
            gi_wp2_with (
                 refine ⟨trivial, fun h => by simp [Fence.wide] at h, ?_⟩
                 gi_at_call 159
                 refine (CallsIn.inRound l' (callsIn_wide.2 CC.out)).mono ?_
                 rintro e w7 ⟨rfl, hb6⟩
                 obtain ⟨hi2, hkp2, hbv2, hp2, hg, hne, hsz, hlen2, hR, hchk⟩ := H.out
                 have hk6 : Keeps (fun _ => False) wi w7 := Keeps.of_below hb6
                 have H6 := hid hk6
                 have hs6 := hb6.size
                 have hp7 := (hk6.block _ (heap_lt hp2) (fun e => e)).trans hp2
                 have cq1 := cell_of_heap hp7 1
                 have cf1 := frozen_of_heap hp7 1
                 have H7 := hid hp7
                 clear hi2 hkp2 hbv2 hp2 hg hne hsz hlen2 hR hchk hk6 hb6 hp7)
            obtain ⟨hi2, hkp2, hbv2, hp2, hg, hne, hsz, hlen2, hR, hchk⟩ := H.out
            have hp7 := H7.out
            have hi8 : (w7.setCell ⟨W.heap.size, 1, none⟩ (.int .i64 ((k : Int) + 1))).heap[W.heap.size + 1]? = some (.stringIter (catB cs) (q + ch.size)) :=
              IterKept.setCell _ hp7 _ _ _ ((H6.out.block _ (heap_lt hi2) (fun e => e)).trans hi2)
            have hkS := (Keeps.refl (fun j => j = W.heap.size) w7).setCell (p := ⟨W.heap.size, 1, none⟩) (.inl rfl) (.int .i64 ((k : Int) + 1))
            go_roundw
            case rel =>
              refine ⟨k + 1, v', by omega, ?_, by rw [hsz]; exact hi8, ?_, ?_, hg, hne⟩
              · rw [heap_setCell_same w7 _ 1 _ _ _ hp7]; rfl
              · have := (hbv2.keeps H6.out (fun e => e) (fun _ _ e => e)).keeps hkS (by omega) (fun j e e2 => hne (e2 ▸ e))
                rw [pk_succ, hck, if_neg (by decide), List.append_nil]
                exact this
              · exact ((hkp2.trans (H6.out.mono (fun j _ e => e.elim))).setCell (p := ⟨W.heap.size, 1, none⟩) (.inr (Nat.le_refl _)) _)
            case measure =>
              rw [iterPos_of hi8, IP]
              exact hsz1
        · obtain rfl : k = cs.length := by omega
          rw [List.take_length] at hi
          have hnx := fun ty => Lib.run_next_end_at (P := Tryz.prog) _ (W.heap.size + 1) (catB cs) _ ty hi (Nat.lt_irrefl _)
          have H := hid (And.intro hbv (And.intro hkp hg))
          have HG := hid (And.intro hsn h2)
          clear h1 hO3 hO3' z0 z1 hcov hsn hlen hch h2 hvl hp hbv hkp hg hi
          gi_wp2
          obtain ⟨hbv, hkp, hg⟩ := H.out
          obtain ⟨hsn, h2⟩ := HG.out
          have hs : Stp (fun k => k = w.heap.size + 2 ∨ v.ownBlock = some k) (fun k => k = w.heap.size + 2 ∨ v'.ownBlock = some k) W wr := by
            refine ⟨hkp, ?_, ?_⟩
            · rintro j (e | e)
              · exact .inl (.inl e)
              · exact hg j e
            · rintro j (e | e)
              · rw [e]; exact hbv.lt
              · exact (hbv.2.1.lt j e).2
          exact ⟨_, hs, v', rfl, by rw [hsn]; exact hbv, h2.trans hs⟩
    case done =>
      rintro O5 W st5 hn5 ⟨v, rfl, h1, h2⟩ hD5
      have CS := hid (bstringV (catB (readP s (plF s (B + 1) t) a b c d (allF s (B + 1) t))).data.toList h1)
      have H := hid (And.intro st5 (And.intro hn5 hD5))
      have HZ := hid hszb
      clear st5 hn5 h1 h2 hD5 x0 x1 x2 x3 x4 hszb hDb hb1 y0 y1 y2 hb0 hwb
      gi_wp2_with (refine ⟨trivial, ?_⟩; gi_at_call 148; refine (callsIn_wide.2 CS.out).mono ?_; rintro e w5 ⟨rfl, hk5⟩)
      obtain ⟨st5, hn5, hD5⟩ := H.out
      have hszb := HZ.out
      refine leaves_marks [wb.heap.size] _ (by simp) (fun D hm => ?_) (fun w' hk' => ⟨.string (catB (readP s (plF s (B + 1) t) a b c d (allF s (B + 1) t))), ?_, rfl, ?_⟩)
      · obtain rfl : D = wb.heap.size := by simpa using hm
        rw [hk5.block _ (heap_lt hD5) (fun e => hn5 (.inr e))]
        exact hD5
      · exact results_tmp (fn := Tryz.f112) (t := 4) rfl _ _ _
      · have k1 : Keeps (fun _ => False) w wb := Keeps.of_below hbb
        have k2 : Keeps (fun _ => False) w W := k1.trans (st5.keeps.mono (fun k _ e => .inr (by omega)))
        have k3 : Keeps (fun _ => False) w w5 := k2.trans (hk5.mono (fun k _ e => .inr (by
          rcases st5.gains k (.inr e) with e1 | e1 <;> omega)))
        exact (k3.trans (hk'.mono (fun k _ e => .inr (by simp at e; omega)))).below
    case stop =>
      rintro O5 pre W hpre st5 hn5 h hD5
      exact h.elim
end Go.Proofs.YtabogkonklplcaaGreatDoor
