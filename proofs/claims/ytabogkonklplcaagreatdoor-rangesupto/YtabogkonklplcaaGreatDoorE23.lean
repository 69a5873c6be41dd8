import Derived.Test.YtabogkonklplcaaGreatDoorE22
import Derived.Test.YtabogkonklplcaaGreatDoorE08
import Derived.Test.YtabogkonklplcaaGreatDoorE03
import Derived.Deep.RegionLaw
import Derived.Deep.Cut
import Derived.Deep.CutRange
import Derived.Test.YtabogkonklplcaaGreatDoorE21

/- margin.fault at the errors that the inner packages answer. -/
namespace Go.Proofs.YtabogkonklplcaaGreatDoor
open Go.RowKit
set_option linter.unusedSimpArgs false
set_option linter.unusedVariables false

theorem setCell_heap1 {w : World} {b : Nat} {o v : Value} {t : TypeId} (h : w.heap[b]? = some (.cells #[o] t (0, 0))) : (w.setCell ⟨b, 0, none⟩ v).heap[b]? = some (.cells #[v] t (0, 0)) := by
  rw [heap_setCell_same w b 0 _ _ _ h]; simp
theorem setCell_heap2 {w : World} {b : Nat} {o0 o1 v0 v1 : Value} {t : TypeId} (h : w.heap[b]? = some (.cells #[o0, o1] t (0, 0))) : ((w.setCell ⟨b, 0, none⟩ v0).setCell ⟨b, 1, none⟩ v1).heap[b]? = some (.cells #[v0, v1] t (0, 0)) := by
  have h1 := heap_setCell_same w b 0 _ _ v0 h
  rw [heap_setCell_same _ b 1 _ _ _ h1]; simp

theorem as_R' (n : Int) (y : Value) (hy1 : y.oneCell' = true) (tb : Nat) (o0 o1 : Value) (w : World) (hg : Glob w) (hq : w.heap[tb]? = some (.cells #[o0, o1] 145 (0, 0))) :
    Calls Tryz.prog 91 #[.iface 145 (.agg #[.int .i64 n, y]), .iface 146 (.pointer (some ⟨tb, 0, none⟩))] w fun e w' => e = .returned (.bool true) ∧
      Keeps (fun b => b = tb) w w' ∧ w'.heap[tb]? = some (.cells #[.int .i64 n, y] 145 (0, 0)) := by
  refine (as_R n y hy1 tb o0 o1 w hg hq).mono ?_
  rintro e w' ⟨rfl, rfl⟩
  have htl := heap_lt hq
  refine ⟨rfl, ?_, setCell_heap2 (o0 := o0) (o1 := o1) ?_⟩
  · exact ((((((Keeps.refl (fun b => b = tb) w).alloc _).alloc _).alloc _).alloc _).setCell (p := ⟨tb, 0, none⟩) (.inl rfl) _).setCell (p := ⟨tb, 1, none⟩) (.inl rfl) _
  · rw [Below.heap_alloc _ _ _ (by simp only [World.size_alloc]; omega), Below.heap_alloc _ _ _ (by simp only [World.size_alloc]; omega), Below.heap_alloc _ _ _ (by simp only [World.size_alloc]; omega), Below.heap_alloc _ _ _ htl]; exact hq

theorem as_P' (n y : Int) (tb : Nat) (o0 : Value) (w : World) (hg : Glob w) (hq : w.heap[tb]? = some (.cells #[o0] 30 (0, 0))) :
    Calls Tryz.prog 91 #[.iface 145 (.agg #[.int .i64 n, .iface 30 (.int .i64 y)]), .iface 147 (.pointer (some ⟨tb, 0, none⟩))] w fun e w' => e = .returned (.bool true) ∧
      Keeps (fun b => b = tb) w w' ∧ w'.heap[tb]? = some (.cells #[.int .i64 y] 30 (0, 0)) := by
  refine (as_P n y 0 tb o0 w hg hq).mono ?_
  rintro e w' ⟨rfl, rfl⟩
  have htl := heap_lt hq
  refine ⟨rfl, ?_, setCell_heap1 (o := o0) ?_⟩
  · exact ((((((Keeps.refl (fun b => b = tb) w).alloc _).alloc _).alloc _).alloc _).alloc _).setCell (p := ⟨tb, 0, none⟩) (.inl rfl) _
  · rw [Below.heap_alloc _ _ _ (by simp only [World.size_alloc]; omega), Below.heap_alloc _ _ _ (by simp only [World.size_alloc]; omega), Below.heap_alloc _ _ _ (by simp only [World.size_alloc]; omega), Below.heap_alloc _ _ _ (by simp only [World.size_alloc]; omega), Below.heap_alloc _ _ _ htl]; exact hq

theorem as_F' (n at_ : Int) (tb : Nat) (o0 : Value) (w : World) (hg : Glob w) (hq : w.heap[tb]? = some (.cells #[o0] 30 (0, 0))) :
    Calls Tryz.prog 91 #[.iface 145 (.agg #[.int .i64 n, .iface 249 (.agg #[.int .i64 at_])]), .iface 147 (.pointer (some ⟨tb, 0, none⟩))] w fun e w' => e = .returned (.bool true) ∧
      Keeps (fun b => b = tb) w w' ∧ w'.heap[tb]? = some (.cells #[.int .i64 6] 30 (0, 0)) := by
  refine (as_F n 0 at_ tb o0 w hg hq).mono ?_
  rintro e w' ⟨rfl, rfl⟩
  have htl := heap_lt hq
  refine ⟨rfl, ?_, setCell_heap1 (o := o0) ?_⟩
  · exact (((((((Keeps.refl (fun b => b = tb) w).alloc _).alloc _).alloc _).alloc _).alloc _).alloc _).setCell (p := ⟨tb, 0, none⟩) (.inl rfl) _
  · rw [Below.heap_alloc _ _ _ (by simp only [World.size_alloc]; omega), Below.heap_alloc _ _ _ (by simp only [World.size_alloc]; omega), Below.heap_alloc _ _ _ (by simp only [World.size_alloc]; omega), Below.heap_alloc _ _ _ (by simp only [World.size_alloc]; omega), Below.heap_alloc _ _ _ (by simp only [World.size_alloc]; omega), Below.heap_alloc _ _ _ htl]; exact hq

theorem Glob.keeps {F : Nat → Prop} {w w' : World} (h : Glob w) (hk : Keeps F w w') (hF : ¬ F 0) : Glob w' := hk.cell h hF
theorem Glob.below {w w' : World} (h : Glob w) (hk : Below w.heap.size w w') : Glob w' := h.keeps (Keeps.of_below (F := fun _ => False) hk) (fun e => e)

/-- fault, given what the first errors.As and the last one answer. -/
theorem fault_of (n y : Int) (v : Value) (hv : v.oneCell' = true) (w : World) (hg : Glob w)
    (h0 : ∀ (tb : Nat) (o0 : Value) (w1 : World), Glob w1 → w1.heap[tb]? = some (.cells #[o0] 141 (0, 0)) →
      Calls Tryz.prog 91 #[.iface 145 (.agg #[.int .i64 n, v]), .iface 143 (.pointer (some ⟨tb, 0, none⟩))] w1 fun e w' => e = .returned (.bool false) ∧ Below w1.heap.size w1 w')
    (h2 : ∀ (tb : Nat) (o0 : Value) (w1 : World), Glob w1 → w1.heap[tb]? = some (.cells #[o0] 30 (0, 0)) →
      Calls Tryz.prog 91 #[.iface 145 (.agg #[.int .i64 n, v]), .iface 147 (.pointer (some ⟨tb, 0, none⟩))] w1 fun e w' => e = .returned (.bool true) ∧
        Keeps (fun b => b = tb) w1 w' ∧ w'.heap[tb]? = some (.cells #[.int .i64 y] 30 (0, 0))) :
    Calls Tryz.prog 46 #[.iface 145 (.agg #[.int .i64 n, v])] w fun e w' => e = .returned (.iface 32 (.agg #[.int .i64 n, .int .i64 y])) ∧ Below w.heap.size w w' := by
  have hgl := hg.lt
  have hB0 : Below w.heap.size w (w.alloc (.cells #[.int .i64 0] 141)) := (Below.refl _ w).alloc (Nat.le_refl _) _
  have C0 := hid (h0 w.heap.size (.int .i64 0) (w.alloc (.cells #[.int .i64 0] 141)) (hg.below hB0) (heap_alloc_new w _))
  have HG := hid hg
  have HB0 := hid hB0
  have H2 := hid h2
  have HV := hid hv
  clear hg hB0 h2 h0 hv
  go_enter Tryz.func46, Tryz.ntmps46
  go_wp2_with (first
    | (go_at_call 91
       refine C0.out.mono ?_
       clear C0
       rintro e w0 ⟨rfl, hb0⟩
       have hB : Below w.heap.size w ((w0.alloc (.cells #[.int .i64 0, .nilIface] 145)).alloc (.cells #[.int .i64 0] 30)) := ((HB0.out.trans (hb0.mono (by simp))).alloc (by have := hb0.size; simp at this; omega) _).alloc (by have := hb0.size; simp at this; simp; omega) _
       have C1 := hid (as_R' n v HV.out w0.heap.size (.int .i64 0) .nilIface ((w0.alloc (.cells #[.int .i64 0, .nilIface] 145)).alloc (.cells #[.int .i64 0] 30)) (HG.out.below hB) (by rw [Below.heap_alloc _ _ _ (by simp), heap_alloc_new]))
       have HB := hid hB
       have Z0 := hid hb0.size
       clear hB hb0 HB0)
    | (go_at_call 91
       refine C1.out.mono ?_
       clear C1
       rintro e w1 ⟨rfl, hk1, hq1⟩
       have hwhy : w1.heap[w0.heap.size + 1]? = some (.cells #[.int .i64 0] 30 (0, 0)) := by
         rw [hk1.block (w0.heap.size + 1) (by simp only [World.size_alloc]; omega) (by omega)]
         have := heap_alloc_new (w0.alloc (.cells #[.int .i64 0, .nilIface] 145)) (.cells #[.int .i64 0] 30)
         simpa using this
       have HGL := hid ((HG.out.below HB.out).keeps hk1 (by have := Z0.out; simp at this; omega))
       have C2 := hid (H2.out (w0.heap.size + 1) (.int .i64 0) w1 HGL.out hwhy)
       have HK1 := hid hk1
       have HQ1 := hid hq1
       clear hk1 hq1 hwhy)
    | (go_at_call 91
       refine C2.out.mono ?_
       clear C2
       rintro e w2 ⟨rfl, hk2, hq2⟩
       have hr2 : w2.heap[w0.heap.size]? = some (.cells #[.int .i64 n, v] 145 (0, 0)) := by rw [hk2.block w0.heap.size (heap_lt HQ1.out) (by omega)]; exact HQ1.out
       have hc0 : w2.cell? ⟨w0.heap.size, 0, none⟩ = some (.int .i64 n) := cell_of_heap hr2 0
       have hc1 : w2.cell? ⟨w0.heap.size + 1, 0, none⟩ = some (.int .i64 y) := cell_of_heap hq2 0
       have HK2 := hid hk2
       clear hk2 hq2 hr2))
  go_ret
  refine ⟨rfl, ?_⟩
  have z0 := Z0.out
  simp only [World.size_alloc] at z0
  have k1 : Keeps (fun b => w.heap.size ≤ b) w w1 := ((Keeps.of_below (F := fun b => w.heap.size ≤ b) HB.out)).trans (HK1.out.mono (fun k _ e => .inl (by omega)))
  have k2 : Keeps (fun b => w.heap.size ≤ b) w w2 := k1.trans (HK2.out.mono (fun k _ e => .inl (by omega)))
  exact ⟨k2.os, k2.tape, k2.output, k2.size, fun k hk => k2.block k hk (by omega)⟩

theorem fault_P (n y : Int) (w : World) (hg : Glob w) :
    Calls Tryz.prog 46 #[.iface 145 (.agg #[.int .i64 n, .iface 30 (.int .i64 y)])] w fun e w' => e = .returned (.iface 32 (.agg #[.int .i64 n, .int .i64 y])) ∧ Below w.heap.size w w' :=
  fault_of n y _ rfl w hg (fun tb o0 w1 h1 h2 => as_MP n y tb o0 w1 h1 h2) (fun tb o0 w1 h1 h2 => as_P' n y tb o0 w1 h1 h2)
theorem fault_F (n at_ : Int) (w : World) (hg : Glob w) :
    Calls Tryz.prog 46 #[.iface 145 (.agg #[.int .i64 n, .iface 249 (.agg #[.int .i64 at_])])] w fun e w' => e = .returned (.iface 32 (.agg #[.int .i64 n, .int .i64 6])) ∧ Below w.heap.size w w' :=
  fault_of n 6 _ rfl w hg (fun tb o0 w1 h1 h2 => as_MF n at_ tb o0 w1 h1 h2) (fun tb o0 w1 h1 h2 => as_F' n at_ tb o0 w1 h1 h2)

end Go.Proofs.YtabogkonklplcaaGreatDoor

/- tree.New, find, add, Element; margin.New, Element. -/
namespace Go.Proofs.YtabogkonklplcaaGreatDoor
open Go.RowKit
set_option linter.unusedSimpArgs false
set_option linter.unusedVariables false

theorem Tryz.info164 : (Tryz.prog.info? 164).map (fun i => (i.zero, i.size, i.bytes)) = some (some (.agg #[.int .i64 0, .bool false, .slice none 0 0, .string ⟨#[]⟩]), 4, 56) := by kernel_rfl

abbrev refusalV (n y : Int) : Value := .iface 145 (.agg #[.int .i64 n, .iface 30 (.int .i64 y)])

set_option maxHeartbeats 400000 in
theorem tnew_any (w : World) :
    Calls Tryz.prog 71 #[] w fun e w' => ∃ bf, e = .returned (.pointer (some ⟨bf, 0, none⟩)) ∧ Below w.heap.size w w' ∧ PFor w' (fun b => w.heap.size ≤ b) bf [rootNd] := by
  go_enter Tryz.func71, Tryz.ntmps71
  go_wp2
  go_ret
  refine ⟨w.heap.size + 1, rfl, ((Below.refl _ w).alloc (Nat.le_refl _) _).alloc (by simp) _, w.heap.size, 1, [⟨-1, false, .slice none 0 0, ⟨#[]⟩⟩], ?_⟩
  have e1 := heap_alloc_new (w.alloc (.cells #[.int .i64 (-1), .bool false, .slice none 0 0, .string ⟨#[]⟩] 164)) (.cells #[.slice (some ⟨w.heap.size, 0, none⟩) 1 1] 167)
  refine ⟨by simpa using e1, ?_, by simp, by simp, by simp, rfl, ?_, ?_⟩
  · have := (World.ownsRow_lit (base := 0) (e := 164) (size := 4) w #[.int .i64 (-1), .bool false, .slice none 0 0, .string ⟨#[]⟩] 1 (Nat.zero_le _) (by decide) rfl).alloc (.cells #[.slice (some ⟨w.heap.size, 0, none⟩) 1 1] 167)
    simpa [PN.cells] using this
  · intro i r x h1 h2
    cases i with
    | zero =>
      simp at h1 h2
      subst h1 h2
      exact ⟨rfl, rfl, rfl, World.ownsRow_nil _ _ _ _, fun b e => (by cases e)⟩
    | succ i => simp at h1
  · intro i j r r' hij h1 h2 b e
    cases i with
    | zero => simp at h1; subst h1; cases e
    | succ i => simp at h1

section
variable {w : World} {F : Nat → Prop} {bf bn cap : Nat} {pn : List PN} {s : List Nd}

set_option maxHeartbeats 400000 in
theorem find_no (hD : PForAt w F bf bn cap pn s) (k : Int) (h : isB s k = false) :
    Calls Tryz.prog 87 #[.pointer (some ⟨bf, 0, none⟩), .int .i64 k] w fun e w' => e = .returned (refusalV k 1) ∧ w' = w := by
  have h0 := hD.nodesCell
  have hk : ¬ (0 ≤ k ∧ k < s.length) := by simpa [isB] using h
  clear hD h
  by_cases h1 : k < 0
  · go_enter Tryz.func87, Tryz.ntmps87
    go_wp2
    go_ret
    exact ⟨rfl, rfl⟩
  · have h2 : (s.length : Int) ≤ k := by omega
    have h1d : decide (k < 0) = false := decide_eq_false h1
    go_enter Tryz.func87, Tryz.ntmps87
    go_wp2
    go_ret
    exact ⟨rfl, rfl⟩

set_option maxHeartbeats 400000 in
theorem find_yes (hD : PForAt w F bf bn cap pn s) (k : Int) (h : isB s k = true) :
    Calls Tryz.prog 87 #[.pointer (some ⟨bf, 0, none⟩), .int .i64 k] w fun e w' => e = .returned .nilIface ∧ w' = w := by
  have h0 := hD.nodesCell
  obtain ⟨h1, h2⟩ := isB_true h
  have h1d : decide (k < 0) = false := decide_eq_false (by omega)
  have h2d : decide ((s.length : Int) ≤ k) = false := decide_eq_false (by omega)
  clear hD h
  go_enter Tryz.func87, Tryz.ntmps87
  go_wp2
  go_ret
  exact ⟨rfl, rfl⟩

set_option maxHeartbeats 400000 in
theorem add_full (hD : PForAt w F bf bn cap pn s) (h40 : 40 ≤ s.length) (p : Int) (t : Bool) (ch : ByteArray) (q : Int) :
    Calls Tryz.prog 143 #[.pointer (some ⟨bf, 0, none⟩), .agg #[.int .i64 p, .bool t, .slice none 0 0, .string ch], .int .i64 q] w fun e w' => e = .returned (.tuple #[.int .i64 0, refusalV q 7]) ∧ Below w.heap.size w w' := by
  have h0 := hD.nodesCell
  have hl := hD.lt.1
  have h1 : (40 : Int) ≤ s.length := by omega
  clear hD
  go_enter Tryz.func143, Tryz.ntmps143
  go_wp2
  go_ret2
  refine ⟨rfl, ?_⟩
  go_grown

set_option maxRecDepth 20000 in
set_option maxHeartbeats 2000000 in
theorem add_some (hD : PForAt w F bf bn cap pn s) (h40 : s.length < 40) (x : Nd) (hp : x.ks = []) (q : Int) :
    Calls Tryz.prog 143 #[.pointer (some ⟨bf, 0, none⟩), .agg #[.int .i64 x.p, .bool x.t, .slice none 0 0, .string (catB x.cs)], .int .i64 q] w fun e w' => e = .returned (.tuple #[.int .i64 s.length, .nilIface]) ∧ Keeps F w w' ∧ PFor w' (fun b => F b ∨ w.heap.size ≤ b) bf (s ++ [x]) := by
  obtain ⟨i0, hi, hz0, hz1, hz2⟩ := info_parts Tryz.info164
  have h0 := hD.nodesCell
  have hlt := hD.lt
  have hl : bf < w.heap.size := hlt.1
  have h1 : ¬ (40 : Int) ≤ s.length := by omega
  have hlen := hD.len
  have HD := hid hD.narrow
  clear hD
  have HD2 := hid (HD.out.below (w' := ((w.alloc (.cells #[.int .i64 x.p, .bool x.t, .slice none 0 0, .string (catB x.cs)] 164)).alloc (.cells #[.int .i64 x.p, .bool x.t, .slice none 0 0, .string (catB x.cs)] 164)).drew) ((((Below.refl _ w).alloc (Nat.le_refl _) _).alloc (by simp) _).drew))
  have HROW : Hid (((w.alloc (.cells #[.int .i64 x.p, .bool x.t, .slice none 0 0, .string (catB x.cs)] 164)).alloc (.cells #[.int .i64 x.p, .bool x.t, .slice none 0 0, .string (catB x.cs)] 164)).drew.ownsRow 0 164 4 (.slice (some ⟨bn, 0, none⟩) s.length cap) s.length (pn.flatMap PN.cells)) := by rw [← hlen]; exact HD2.out.nodes
  have src : ∀ (j : Nat) (u : Value), [Value.int .i64 x.p, .bool x.t, .slice none 0 0, .string (catB x.cs)][j]? = some u → ((w.alloc (.cells #[.int .i64 x.p, .bool x.t, .slice none 0 0, .string (catB x.cs)] 164)).alloc (.cells #[.int .i64 x.p, .bool x.t, .slice none 0 0, .string (catB x.cs)] 164)).drew.cell? ((⟨w.heap.size + 1, 0, none⟩ : Addr).add j) = some u := by
    have := World.news_of_block (heap_alloc_new (w.alloc (.cells #[.int .i64 x.p, .bool x.t, .slice none 0 0, .string (catB x.cs)] 164)) (.cells #[.int .i64 x.p, .bool x.t, .slice none 0 0, .string (catB x.cs)] 164))
    simpa using this
  have SRC := hid src
  clear src
  go_enter Tryz.func143, Tryz.ntmps143
  go_wp2
  go_cut [] from 8 to 33 (fun wc => ∃ g cap' pn2, PForAt wc (fun b => (F b ∧ b < w.heap.size) ∨ w.heap.size + 1 ≤ b) bf g cap' pn2 (s ++ [x]) ∧ Keeps F w wc)
  case first =>
    go_region_law ((refine step_append_lies _ rfl (.tmp 22) (.tmp 24) 165 rfl 0 164 i0 _ 4 56 Tryz.underlying165 hi hz0 hz1 hz2 rfl (by decide) (.slice (some ⟨bn, 0, none⟩) s.length cap) s.length _ (by simp [Act.eval, Act.put]) HROW.out ⟨w.heap.size + 1, 0, none⟩ 1 1 [.int .i64 x.p, .bool x.t, .slice none 0 0, .string (catB x.cs)] (by simp [Act.eval, Act.put]) rfl SRC.out (by simp [Value.oneCell']) (by decide) (by unfold maxLen; omega) (by omega) (Nat.zero_le _) (w.heap.size + 1 + 1) (by simp) ?_
                    intro g cap' w1 ho (hg : World.grownBy _ w1 (some bn)) (hgn : some bn = some g ∨ _) _
                    have hd1 := (hg.block bf (by simp only [World.size_drew, World.size_alloc]; omega) (by simpa using HD2.out.ne)).trans HD2.out.forest
                    have hc1 : w1.cell? ⟨bf, 0, none⟩ = some (.slice (some ⟨bn, 0, none⟩) pn.length cap) := cell_of_heap hd1 0
                    have hf1 := frozen_of_heap hd1 0
                    have HG := hid hg
                    have HO := hid ho
                    have HN := hid hgn
                    clear hd1 hg ho hgn))
    all_goals
      go_wp2_with fail
      go_meet
      case rel =>
        have ho : w1.ownsRow 0 164 4 (.slice (some ⟨g, 0, none⟩) (pn.length + 1) cap') (pn.length + 1) (pn.flatMap PN.cells ++ PN.cells ⟨x.p, x.t, .slice none 0 0, catB x.cs⟩) := by rw [hlen]; exact HO.out
        have hp2 := HD2.out.pushed (B := w.heap.size + 1) (x := x) (by simp only [World.size_drew, World.size_alloc]; omega) HG.out ho (by rcases HN.out with e | e; exact .inl (by cases e; rfl); exact .inr (by simpa using e)) ⟨rfl, rfl, rfl, rfl, hp⟩
        rw [hlen] at hp2
        have hk0 : Keeps F w w1 := ((((Keeps.refl F w).alloc _).alloc _).drew).trans (Keeps.grown HG.out (fun k e => by cases e; exact .inl (.inl HD.out.Fn.1)))
        exact ⟨g, cap', _, hp2, hk0.setCell (p := ⟨bf, 0, none⟩) (.inl HD.out.Ff.1) _⟩
  case rest =>
    obtain ⟨g, cap', pn2, hD2, hk2⟩ := hcut
    have h02 := hD2.nodesCell
    rw [List.length_append] at h02
    have HD3 := hid hD2
    have HK2 := hid hk2
    clear hD2 hk2
    go_wp2
    go_ret2
    refine ⟨by simp, HK2.out, g, cap', pn2, HD3.out.wider ?_⟩
    intro b hb
    rcases hb with hb | hb
    · exact .inl hb.1
    · exact .inr (by omega)
end

end Go.Proofs.YtabogkonklplcaaGreatDoor

/- marginref's SetStart, SetEnd. -/
namespace Go.Proofs.YtabogkonklplcaaGreatDoor
open Go.RowKit
set_option linter.unusedSimpArgs false
set_option linter.unusedVariables false

set_option maxRecDepth 20000 in
set_option maxHeartbeats 1000000 in
theorem rstart_no {w : World} {bd : Nat} (r p0 p1 a y : Int) (hS : ∀ W, Below w.heap.size w W → Calls Tryz.prog 130 #[.pointer (some ⟨bd, 0, none⟩), .int .i64 r, .agg #[.int .i64 p0, .int .i64 p1], .bool true] W fun e w' => e = .returned (rfltV a y) ∧ Below W.heap.size W w') :
    Calls Tryz.prog 82 #[.pointer (some ⟨bd, 0, none⟩), .int .i64 r, .agg #[.int .i64 p0, .int .i64 p1]] w fun e w' => e = .returned (rfltV a y) ∧ Below w.heap.size w w' := by
  have HB0 := hid (show Below w.heap.size w (pf w p0 p1) from ((Below.refl _ w).alloc (Nat.le_refl _) _).alloc (by simp) _)
  have C := hid (hS _ HB0.out)
  have a1 : (pf w p0 p1).heap[w.heap.size + 1]? = some (.cells #[.int .i64 0, .int .i64 0] 32 (0, 0)) := by
    have := heap_alloc_new (w.alloc (.cells #[.int .i64 p0, .int .i64 p1] 37)) (.cells #[.int .i64 0, .int .i64 0] 32)
    simpa using this
  have HA1 := hid a1
  clear hS a1
  go_enter Tryz.func82, Tryz.ntmps82
  go_wp2_with (
    go_at_call 130
    refine C.out.mono ?_
    rintro e w1 ⟨rfl, hb1⟩
    have hz := (hb1.block _ (heap_lt HA1.out)).trans HA1.out
    have z0 := cell_of_heap hz 0
    have z1 := cell_of_heap hz 1
    have f0 := frozen_of_heap hz 0
    have f1 := frozen_of_heap hz 1
    have hl := heap_lt hz
    have HB1 := hid (HB0.out.trans (hb1.mono HB0.out.size))
    clear hb1 hz)
  refine bodyPost_ret (v := rfltV a y) (by simp [results, Tryz.results82, go_sem, z0, z1, f0, f1, hl]) rfl ?_
  exact ⟨rfl, (HB1.out.setCell (p := ⟨w.heap.size + 1, 0, none⟩) (Nat.le_succ _) _).setCell (p := ⟨w.heap.size + 1, 1, none⟩) (Nat.le_succ _) _⟩

set_option maxRecDepth 20000 in
set_option maxHeartbeats 1000000 in
theorem rstart_ok {w : World} {F : Nat → Prop} {bd : Nat} {s : List Nd} {rs rs' : List Sp} (hD : RDoc w F bd s rs) (r p0 p1 : Int) (hS : ∀ (W : World) (G : Nat → Prop), RDoc W G bd s rs → Calls Tryz.prog 130 #[.pointer (some ⟨bd, 0, none⟩), .int .i64 r, .agg #[.int .i64 p0, .int .i64 p1], .bool true] W fun e w' => e = .returned (rfltV 0 0) ∧ Keeps G W w' ∧ RDoc w' (fun b => G b ∨ W.heap.size ≤ b) bd s rs') :
    Calls Tryz.prog 82 #[.pointer (some ⟨bd, 0, none⟩), .int .i64 r, .agg #[.int .i64 p0, .int .i64 p1]] w fun e w' => e = .returned (rfltV 0 0) ∧ Keeps F w w' ∧ RDoc w' (grow F w) bd s rs' := by
  have HB0 := hid (show Below w.heap.size w (pf w p0 p1) from ((Below.refl _ w).alloc (Nat.le_refl _) _).alloc (by simp) _)
  have hD0 : RDoc (pf w p0 p1) (fun b => F b ∧ b < w.heap.size) bd s rs := by
    obtain ⟨bn, cap, rn, rv, h⟩ := hD
    exact ⟨bn, cap, rn, rv, h.narrow.below HB0.out⟩
  have C := hid (hS _ _ hD0)
  have a1 : (pf w p0 p1).heap[w.heap.size + 1]? = some (.cells #[.int .i64 0, .int .i64 0] 32 (0, 0)) := by
    have := heap_alloc_new (w.alloc (.cells #[.int .i64 p0, .int .i64 p1] 37)) (.cells #[.int .i64 0, .int .i64 0] 32)
    simpa using this
  have HA1 := hid a1
  clear hS a1 hD0 hD
  go_enter Tryz.func82, Tryz.ntmps82
  go_wp2_with (
    go_at_call 130
    refine C.out.mono ?_
    rintro e w1 ⟨rfl, hk1, hd1⟩
    have hz := (hk1.block _ (heap_lt HA1.out) (fun e => by omega)).trans HA1.out
    have z0 := cell_of_heap hz 0
    have z1 := cell_of_heap hz 1
    have f0 := frozen_of_heap hz 0
    have f1 := frozen_of_heap hz 1
    have hl := heap_lt hz
    have H1 := hid (And.intro hk1 hd1)
    clear hk1 hd1 hz)
  refine bodyPost_ret (v := rfltV 0 0) (by simp [results, Tryz.results82, go_sem, z0, z1, f0, f1, hl]) rfl ?_
  obtain ⟨hk1, hd1⟩ := H1.out
  have hk2 : Keeps F w w1 := (Keeps.of_below HB0.out).trans (hk1.mono (fun b _ e => .inl e.1))
  refine ⟨rfl, (hk2.setCell (p := ⟨w.heap.size + 1, 0, none⟩) (.inr (Nat.le_succ _)) _).setCell (p := ⟨w.heap.size + 1, 1, none⟩) (.inr (Nat.le_succ _)) _, ?_⟩
  refine (hd1.keeps (((Keeps.refl (fun b => b = w.heap.size + 1) _).setCell (p := ⟨w.heap.size + 1, 0, none⟩) (.inl rfl) _).setCell (p := ⟨w.heap.size + 1, 1, none⟩) (.inl rfl) _) ?_).wider ?_
  · intro b hb e
    rcases hb with hb | hb
    · omega
    · simp only [World.size_alloc] at hb
      omega
  · intro b hb
    rcases hb with hb | hb
    · exact .inl hb.1
    · simp only [World.size_alloc] at hb
      exact .inr (by omega)

set_option maxRecDepth 20000 in
set_option maxHeartbeats 1000000 in
theorem rend_no {w : World} {bd : Nat} (r p0 p1 a y : Int) (hS : ∀ W, Below w.heap.size w W → Calls Tryz.prog 130 #[.pointer (some ⟨bd, 0, none⟩), .int .i64 r, .agg #[.int .i64 p0, .int .i64 p1], .bool false] W fun e w' => e = .returned (rfltV a y) ∧ Below W.heap.size W w') :
    Calls Tryz.prog 83 #[.pointer (some ⟨bd, 0, none⟩), .int .i64 r, .agg #[.int .i64 p0, .int .i64 p1]] w fun e w' => e = .returned (rfltV a y) ∧ Below w.heap.size w w' := by
  have HB0 := hid (show Below w.heap.size w (pf w p0 p1) from ((Below.refl _ w).alloc (Nat.le_refl _) _).alloc (by simp) _)
  have C := hid (hS _ HB0.out)
  have a1 : (pf w p0 p1).heap[w.heap.size + 1]? = some (.cells #[.int .i64 0, .int .i64 0] 32 (0, 0)) := by
    have := heap_alloc_new (w.alloc (.cells #[.int .i64 p0, .int .i64 p1] 37)) (.cells #[.int .i64 0, .int .i64 0] 32)
    simpa using this
  have HA1 := hid a1
  clear hS a1
  go_enter Tryz.func83, Tryz.ntmps83
  go_wp2_with (
    go_at_call 130
    refine C.out.mono ?_
    rintro e w1 ⟨rfl, hb1⟩
    have hz := (hb1.block _ (heap_lt HA1.out)).trans HA1.out
    have z0 := cell_of_heap hz 0
    have z1 := cell_of_heap hz 1
    have f0 := frozen_of_heap hz 0
    have f1 := frozen_of_heap hz 1
    have hl := heap_lt hz
    have HB1 := hid (HB0.out.trans (hb1.mono HB0.out.size))
    clear hb1 hz)
  refine bodyPost_ret (v := rfltV a y) (by simp [results, Tryz.results83, go_sem, z0, z1, f0, f1, hl]) rfl ?_
  exact ⟨rfl, (HB1.out.setCell (p := ⟨w.heap.size + 1, 0, none⟩) (Nat.le_succ _) _).setCell (p := ⟨w.heap.size + 1, 1, none⟩) (Nat.le_succ _) _⟩

set_option maxRecDepth 20000 in
set_option maxHeartbeats 1000000 in
theorem rend_ok {w : World} {F : Nat → Prop} {bd : Nat} {s : List Nd} {rs rs' : List Sp} (hD : RDoc w F bd s rs) (r p0 p1 : Int) (hS : ∀ (W : World) (G : Nat → Prop), RDoc W G bd s rs → Calls Tryz.prog 130 #[.pointer (some ⟨bd, 0, none⟩), .int .i64 r, .agg #[.int .i64 p0, .int .i64 p1], .bool false] W fun e w' => e = .returned (rfltV 0 0) ∧ Keeps G W w' ∧ RDoc w' (fun b => G b ∨ W.heap.size ≤ b) bd s rs') :
    Calls Tryz.prog 83 #[.pointer (some ⟨bd, 0, none⟩), .int .i64 r, .agg #[.int .i64 p0, .int .i64 p1]] w fun e w' => e = .returned (rfltV 0 0) ∧ Keeps F w w' ∧ RDoc w' (grow F w) bd s rs' := by
  have HB0 := hid (show Below w.heap.size w (pf w p0 p1) from ((Below.refl _ w).alloc (Nat.le_refl _) _).alloc (by simp) _)
  have hD0 : RDoc (pf w p0 p1) (fun b => F b ∧ b < w.heap.size) bd s rs := by
    obtain ⟨bn, cap, rn, rv, h⟩ := hD
    exact ⟨bn, cap, rn, rv, h.narrow.below HB0.out⟩
  have C := hid (hS _ _ hD0)
  have a1 : (pf w p0 p1).heap[w.heap.size + 1]? = some (.cells #[.int .i64 0, .int .i64 0] 32 (0, 0)) := by
    have := heap_alloc_new (w.alloc (.cells #[.int .i64 p0, .int .i64 p1] 37)) (.cells #[.int .i64 0, .int .i64 0] 32)
    simpa using this
  have HA1 := hid a1
  clear hS a1 hD0 hD
  go_enter Tryz.func83, Tryz.ntmps83
  go_wp2_with (
    go_at_call 130
    refine C.out.mono ?_
    rintro e w1 ⟨rfl, hk1, hd1⟩
    have hz := (hk1.block _ (heap_lt HA1.out) (fun e => by omega)).trans HA1.out
    have z0 := cell_of_heap hz 0
    have z1 := cell_of_heap hz 1
    have f0 := frozen_of_heap hz 0
    have f1 := frozen_of_heap hz 1
    have hl := heap_lt hz
    have H1 := hid (And.intro hk1 hd1)
    clear hk1 hd1 hz)
  refine bodyPost_ret (v := rfltV 0 0) (by simp [results, Tryz.results83, go_sem, z0, z1, f0, f1, hl]) rfl ?_
  obtain ⟨hk1, hd1⟩ := H1.out
  have hk2 : Keeps F w w1 := (Keeps.of_below HB0.out).trans (hk1.mono (fun b _ e => .inl e.1))
  refine ⟨rfl, (hk2.setCell (p := ⟨w.heap.size + 1, 0, none⟩) (.inr (Nat.le_succ _)) _).setCell (p := ⟨w.heap.size + 1, 1, none⟩) (.inr (Nat.le_succ _)) _, ?_⟩
  refine (hd1.keeps (((Keeps.refl (fun b => b = w.heap.size + 1) _).setCell (p := ⟨w.heap.size + 1, 0, none⟩) (.inl rfl) _).setCell (p := ⟨w.heap.size + 1, 1, none⟩) (.inl rfl) _) ?_).wider ?_
  · intro b hb e
    rcases hb with hb | hb
    · omega
    · simp only [World.size_alloc] at hb
      omega
  · intro b hb
    rcases hb with hb | hb
    · exact .inl hb.1
    · simp only [World.size_alloc] at hb
      exact .inr (by omega)

end Go.Proofs.YtabogkonklplcaaGreatDoor
