import Derived.Test.YtabogkonklplcaaGreatDoorB07

/- marginref's Text. -/
namespace Go.Proofs.YtabogkonklplcaaGreatDoor
open Go.RowKit
set_option linter.unusedSimpArgs false
set_option linter.unusedVariables false

theorem chars_no (s : ByteArray) (w : World) (hs : s.size < lots) (h : charsOf s = none) : Calls Tryz.prog 115 #[.string s] w fun e w' => e = .returned (.tuple #[.slice none 0 0, .bool false]) ∧ Below w.heap.size w w' := by
  refine (chars_any s w hs).mono ?_
  rintro e w' ⟨hb, ⟨_, rfl⟩ | ⟨l, v, hl, _⟩⟩
  · exact ⟨rfl, hb⟩
  · rw [h] at hl; cases hl
theorem chars_yes (s : ByteArray) (w : World) (hs : s.size < lots) (l : List ByteArray) (h : charsOf s = some l) : Calls Tryz.prog 115 #[.string s] w fun e w' => ∃ v, e = .returned (.tuple #[v, .bool true]) ∧ w'.ownsRow w.heap.size 9 1 v l.length (strsV l) ∧ Below w.heap.size w w' := by
  refine (chars_any s w hs).mono ?_
  rintro e w' ⟨hb, ⟨hn, _⟩ | ⟨l', v, hl, _, rfl, hrow⟩⟩
  · rw [h] at hn; cases hn
  · rw [h] at hl; cases hl
    exact ⟨v, rfl, hrow, hb⟩

theorem ownsRow_zero {w : World} {B : Nat} {e : TypeId} {z : Nat} {v : Value} {n : Nat} {xs : List Value} (h : w.ownsRow B e z v n xs) : w.ownsRow 0 e z v n xs := by
  refine ⟨h.1, ?_⟩
  rcases h.2 with h | ⟨g, cap, cur, hv, _, r⟩
  · exact .inl h
  · exact .inr ⟨g, cap, cur, hv, Nat.zero_le _, r⟩

theorem slice_shape {w : World} {B : Nat} {e : TypeId} {z : Nat} {v : Value} {n : Nat} {xs : List Value} (h : w.ownsRow B e z v n xs) : ∃ a cap, v = .slice a n cap := by
  rcases h.2 with ⟨hv, hn⟩ | ⟨g, cap, cur, hv, _⟩
  · subst hn; exact ⟨_, _, hv⟩
  · exact ⟨_, _, hv⟩

section
variable {w : World} {F : Nat → Prop} {bd bn cap : Nat} {rn : List RN} {rv : Value} {s : List Nd} {rs : List Sp}

set_option maxHeartbeats 400000 in
theorem rtext_no (hD : RDocAt w F bd bn cap rn rv s rs) (t : ByteArray) (ht : t.size < lots) (h : charsOf t = none) :
    Calls Tryz.prog 74 #[.pointer (some ⟨bd, 0, none⟩), .string t] w fun e w' => e = .returned (.tuple #[.int .i64 0, .agg #[.int .i64 0, .int .i64 6]]) ∧ Below w.heap.size w w' := by
  clear hD
  have HT : Hid _ := ht
  have HC : Hid _ := h
  clear ht h
  go_enter Tryz.func74, Tryz.ntmps74
  go_wp2_with (first
    | (go_at_call 115
       refine (chars_no t _ HT.out HC.out).mono ?_
       rintro e w1 ⟨rfl, hb⟩
       have hq : w1.heap[w.heap.size]? = some (.cells #[.int .i64 0, .int .i64 0] 32 (0, 0)) := (hb.block w.heap.size (by simp)).trans (heap_alloc_new w _)
       have hz : w.heap.size < w1.heap.size := heap_lt hq
       have hc2 : w1.cell? ⟨w.heap.size, 0, none⟩ = some (.int .i64 0) := cell_of_heap hq 0
       have hc3 : w1.cell? ⟨w.heap.size, 1, none⟩ = some (.int .i64 0) := cell_of_heap hq 1
       have hf2 := frozen_of_heap hq 0
       have hf3 := frozen_of_heap hq 1
       have HB : Hid (Below w.heap.size w w1) := ((Below.refl _ w).alloc (Nat.le_refl _) _).trans (hb.mono (by simp))
       clear hq hb)
    | (go_at_call 48; refine (no_any _ _ _).mono ?_; rintro e w' ⟨rfl, rfl⟩))
  refine bodyPost_ret (v := .tuple #[.int .i64 0, .agg #[.int .i64 0, .int .i64 6]]) (by simp [results, Tryz.results74, go_sem, *]) rfl ?_
  refine ⟨rfl, ?_⟩
  have hh := HB.out
  have hsz := hh.size
  go_grown

set_option maxHeartbeats 400000 in
theorem rtext_long (hD : RDocAt w F bd bn cap rn rv s rs) (t : ByteArray) (ht : t.size < lots) (l : List ByteArray) (h : charsOf t = some l) (h30 : 30 < l.length) :
    Calls Tryz.prog 74 #[.pointer (some ⟨bd, 0, none⟩), .string t] w fun e w' => e = .returned (.tuple #[.int .i64 0, .agg #[.int .i64 0, .int .i64 6]]) ∧ Below w.heap.size w w' := by
  clear hD
  have HT : Hid _ := ht
  have HC : Hid _ := h
  clear ht h
  have h30' : (30 : Int) < l.length := by omega
  go_enter Tryz.func74, Tryz.ntmps74
  go_wp2_with (first
    | (go_at_call 115
       refine (chars_yes t _ HT.out l HC.out).mono ?_
       rintro e w1 ⟨v, rfl, hrow, hb⟩
       obtain ⟨a, c, rfl⟩ := slice_shape hrow
       clear hrow
       have hq : w1.heap[w.heap.size]? = some (.cells #[.int .i64 0, .int .i64 0] 32 (0, 0)) := (hb.block w.heap.size (by simp)).trans (heap_alloc_new w _)
       have hz : w.heap.size < w1.heap.size := heap_lt hq
       have hc2 : w1.cell? ⟨w.heap.size, 0, none⟩ = some (.int .i64 0) := cell_of_heap hq 0
       have hc3 : w1.cell? ⟨w.heap.size, 1, none⟩ = some (.int .i64 0) := cell_of_heap hq 1
       have hf2 := frozen_of_heap hq 0
       have hf3 := frozen_of_heap hq 1
       have HB : Hid (Below w.heap.size w w1) := ((Below.refl _ w).alloc (Nat.le_refl _) _).trans (hb.mono (by simp))
       clear hq hb)
    | (go_at_call 48; refine (no_any _ _ _).mono ?_; rintro e w' ⟨rfl, rfl⟩))
  refine bodyPost_ret (v := .tuple #[.int .i64 0, .agg #[.int .i64 0, .int .i64 6]]) (by simp [results, Tryz.results74, go_sem, *]) rfl ?_
  refine ⟨rfl, ?_⟩
  have hh := HB.out
  have hsz := hh.size
  go_grown

set_option maxHeartbeats 400000 in
theorem rtext_full (hD : RDocAt w F bd bn cap rn rv s rs) (t : ByteArray) (ht : t.size < lots) (l : List ByteArray) (h : charsOf t = some l) (h30 : l.length ≤ 30) (h40 : 40 ≤ s.length) :
    Calls Tryz.prog 74 #[.pointer (some ⟨bd, 0, none⟩), .string t] w fun e w' => e = .returned (.tuple #[.int .i64 0, .agg #[.int .i64 0, .int .i64 7]]) ∧ Below w.heap.size w w' := by
  have HT : Hid _ := ht
  have HC : Hid _ := h
  have HD : Hid _ := hD
  have hl := hD.lt.1
  clear ht h hD
  have h30' : ¬ (30 : Int) < l.length := by omega
  have h40' : (40 : Int) ≤ s.length := by omega
  go_enter Tryz.func74, Tryz.ntmps74
  go_wp2_with (first
    | (go_at_call 115
       refine (chars_yes t _ HT.out l HC.out).mono ?_
       rintro e w1 ⟨v, rfl, hrow, hb⟩
       obtain ⟨a, c, rfl⟩ := slice_shape hrow
       clear hrow
       have hq : w1.heap[w.heap.size]? = some (.cells #[.int .i64 0, .int .i64 0] 32 (0, 0)) := (hb.block w.heap.size (by simp)).trans (heap_alloc_new w _)
       have hz : w.heap.size < w1.heap.size := heap_lt hq
       have hc2 : w1.cell? ⟨w.heap.size, 0, none⟩ = some (.int .i64 0) := cell_of_heap hq 0
       have hc3 : w1.cell? ⟨w.heap.size, 1, none⟩ = some (.int .i64 0) := cell_of_heap hq 1
       have hf2 := frozen_of_heap hq 0
       have hf3 := frozen_of_heap hq 1
       have hh : Below w.heap.size w w1 := ((Below.refl _ w).alloc (Nat.le_refl _) _).trans (hb.mono (by simp))
       have h0 := (HD.out.below hh).nodesCell
       have HB : Hid (Below w.heap.size w w1) := hh
       clear hq hb hh)
    | (go_at_call 48; refine (no_any _ _ _).mono ?_; rintro e w' ⟨rfl, rfl⟩))
  refine bodyPost_ret (v := .tuple #[.int .i64 0, .agg #[.int .i64 0, .int .i64 7]]) (by simp [results, Tryz.results74, go_sem, *]) rfl ?_
  refine ⟨rfl, ?_⟩
  have hh := HB.out
  have hsz := hh.size
  go_grown

set_option maxRecDepth 20000 in
set_option maxHeartbeats 1000000 in
theorem rtext_some (hD : RDocAt w F bd bn cap rn rv s rs) (t : ByteArray) (ht : t.size < lots) (l : List ByteArray) (h : charsOf t = some l) (h30 : l.length ≤ 30) (h40 : s.length < 40) :
    Calls Tryz.prog 74 #[.pointer (some ⟨bd, 0, none⟩), .string t] w fun e w' => e = .returned (.tuple #[.int .i64 s.length, .agg #[.int .i64 0, .int .i64 0]]) ∧ Keeps F w w' ∧ RDoc w' (fun b => F b ∨ w.heap.size ≤ b) bd (s ++ [⟨true, l, [], -1⟩]) rs := by
  obtain ⟨i0, hi, hz0, hz1, hz2⟩ := info_parts Tryz.info119
  have HT : Hid _ := ht
  have HC : Hid _ := h
  have HD : Hid _ := hD
  have hlen := hD.len
  have hlt := hD.lt
  have hl := hD.lt.1
  clear ht h hD
  have h30' : ¬ (30 : Int) < l.length := by omega
  have h40' : ¬ (40 : Int) ≤ s.length := by omega
  have hneq : ¬ bd = w.heap.size := by omega
  go_enter Tryz.func74, Tryz.ntmps74
  go_wp2_with (first
    | (go_at_call 115
       refine (chars_yes t _ HT.out l HC.out).mono ?_
       rintro e w1 ⟨v, rfl, hrow, hb⟩
       obtain ⟨a, c, rfl⟩ := slice_shape hrow
       have hq : w1.heap[w.heap.size]? = some (.cells #[.int .i64 0, .int .i64 0] 32 (0, 0)) := (hb.block w.heap.size (by simp)).trans (heap_alloc_new w _)
       have hz : w.heap.size < w1.heap.size := heap_lt hq
       have hh : Below w.heap.size w w1 := ((Below.refl _ w).alloc (Nat.le_refl _) _).trans (hb.mono (by simp))
       have hl1 : bd < w1.heap.size := Nat.lt_of_lt_of_le hl hh.size
       have h0 := (HD.out.below hh).nodesCell
       have HB : Hid (Below w.heap.size w w1) := hh
       have HQ : Hid (w1.heap[w.heap.size]? = some (.cells #[.int .i64 0, .int .i64 0] 32 (0, 0))) := hq
       go_must (have HR : Hid (w1.ownsRow (w.heap.size + 1) 9 1 (.slice a l.length c) l.length (strsV l)) := by rw [World.size_alloc] at hrow; exact hrow)
       go_must (have HD2 : Hid (RDocAt (w1.alloc (.cells #[.bool true, .slice a l.length c, .slice none 0 0, .int .i64 (-1)] 119)) (fun b => F b ∧ b < w.heap.size) bd bn cap rn rv s rs) :=
         HD.out.narrow.below (hh.alloc hh.size _))
       clear hq hb hh hrow)
    | (at_builtin
       refine wpList_append_lies _ rfl (.tmp 32) (.tmp 35) 120 rfl 0 119 i0 _ 4 64 Tryz.underlying120 hi hz0 hz1 hz2 rfl (by decide) (.slice (some ⟨bn, 0, none⟩) s.length cap) s.length _ rfl (by have := HD2.out.nodes; rw [hlen] at this; exact this) ⟨w1.heap.size, 0, none⟩ 1 1 [.bool true, .slice a l.length c, .slice none 0 0, .int .i64 (-1)] rfl rfl (World.news_of_block (heap_alloc_new w1 _)) (by simp [Value.oneCell']) (by decide) (by unfold maxLen; omega) (by omega) (Nat.zero_le _) (w1.heap.size + 1) (by simp) ?_
       intro g cap' w2 ho (hg : World.grownBy _ w2 (some bn)) (hgn : some bn = some g ∨ _) _
       have hd1 := (hg.block bd (by simp only [World.size_alloc]; omega) (by simpa using HD2.out.ne)).trans HD2.out.doc
       have hc1 : w2.cell? ⟨bd, 0, none⟩ = some (.slice (some ⟨bn, 0, none⟩) rn.length cap) := cell_of_heap hd1 0
       have hf1 := frozen_of_heap hd1 0
       have hq1 := (hg.block w.heap.size (by simp only [World.size_alloc]; omega) (by simp; omega)).trans ((Below.heap_alloc _ _ _ hz).trans HQ.out)
       have hc2 : w2.cell? ⟨w.heap.size, 0, none⟩ = some (.int .i64 0) := cell_of_heap hq1 0
       have hc3 : w2.cell? ⟨w.heap.size, 1, none⟩ = some (.int .i64 0) := cell_of_heap hq1 1
       have hf2 := frozen_of_heap hq1 0
       have hf3 := frozen_of_heap hq1 1
       have HG : Hid _ := hg
       have HO : Hid (w2.ownsRow 0 119 4 (.slice (some ⟨g, 0, none⟩) (s.length + 1) cap') (s.length + 1) (rn.flatMap RN.cells ++ [.bool true, .slice a l.length c, .slice none 0 0, .int .i64 (-1)])) := ho
       have HN : Hid _ := hgn
       clear hd1 hq1 hg ho hgn))
  refine bodyPost_ret (v := .tuple #[.int .i64 s.length, .agg #[.int .i64 0, .int .i64 0]]) (by simp [results, Tryz.results74, go_sem, *]) rfl ?_
  have hk0 : Keeps F w w2 := ((Keeps.of_below (F := F) HB.out).alloc _).trans (Keeps.grown HG.out (fun k e => by cases e; exact .inl (.inl HD.out.Fn)))
  refine ⟨rfl, ?_, ?_⟩
  · exact ((hk0.setCell (p := ⟨bd, 0, none⟩) (.inl HD.out.Fd) _).setCell (p := ⟨w.heap.size, 0, none⟩) (.inr (Nat.le_refl _)) _).setCell (p := ⟨w.heap.size, 1, none⟩) (.inr (Nat.le_refl _)) _
  · refine ⟨g, cap', rn ++ [⟨true, .slice a l.length c, .slice none 0 0, -1⟩], rv, ?_⟩
    have ho : w2.ownsRow 0 119 4 (.slice (some ⟨g, 0, none⟩) (rn.length + 1) cap') (rn.length + 1) (rn.flatMap RN.cells ++ RN.cells ⟨true, .slice a l.length c, .slice none 0 0, -1⟩) := by rw [hlen]; exact HO.out
    have hcr := HR.out
    have hcb : ∀ b, (Value.slice a l.length c).ownBlock = some b → w.heap.size + 1 ≤ b := fun b e => (hcr.lt b e).1
    have hp := HD2.out.pushed (B := w.heap.size + 1) (x := ⟨true, l, [], -1⟩) (by simp only [World.size_alloc]; omega) HG.out ho (by rcases HN.out with e | e; exact .inl (by cases e; rfl); exact .inr (by simpa using e))
      ⟨rfl, rfl, ownsRow_zero (hcr.alloc _), World.ownsRow_nil _ _ _ _, fun b e => ⟨.inr (hcb b e), by have := hcb b e; omega, by have := hcb b e; omega, fun e2 => by have := hcb b e; have := (HD.out.ranges.lt b e2).2; omega⟩, fun b e => (by cases e)⟩
    rw [hlen] at hp
    have hk3 : Keeps (fun b => b = w.heap.size) (w2.setCell ⟨bd, 0, none⟩ (.slice (some ⟨g, 0, none⟩) (s.length + 1) cap')) _ :=
      ((Keeps.refl (fun b => b = w.heap.size) _).setCell (p := ⟨w.heap.size, 0, none⟩) (.inl rfl) (.int .i64 0)).setCell (p := ⟨w.heap.size, 1, none⟩) (.inl rfl) (.int .i64 0)
    refine (hp.keeps hk3 ?_).wider ?_
    · intro b hb e
      rcases hb with hb | hb
      · omega
      · omega
    · intro b hb
      rcases hb with hb | hb
      · exact .inl hb.1
      · exact .inr (by omega)
end

end Go.Proofs.YtabogkonklplcaaGreatDoor
