import Derived.Test.YtabogkonklplcaaGreatDoorB18
import Derived.Test.YtabogkonklplcaaGreatDoorB25
import Derived.Test.YtabogkonklplcaaGreatDoorB09
import Derived.Deep.RegionLaw
import Derived.Deep.Cut
import Derived.Deep.CutRange

/- tree.New, find, add, Element; margin.New, Element. -/
namespace Go.Proofs.YtabogkonklplcaaGreatDoor
open Go.RowKit
set_option linter.unusedSimpArgs false
set_option linter.unusedVariables false

theorem Tryz.info164 : (Tryz.prog.info? 164).map (fun i => (i.zero, i.size, i.bytes)) = some (some (.agg #[.int .i64 0, .bool false, .slice none 0 0, .string ⟨#[]⟩]), 4, 56) := by kernel_rfl

abbrev refusalV (n y : Int) : Value := .iface 145 (.agg #[.int .i64 n, .iface 30 (.int .i64 y)])

set_option maxHeartbeats 400000 in
theorem tnew_any (w : World) :
    Calls Tryz.prog 71 #[] w fun e w' => ∃ bf, e = .returned (.pointer (some ⟨bf, 0, none⟩)) ∧ Below w.heap.size w w' ∧ PFor w' (fun b => w.heap.size ≤ b) bf [rootNd] := by
  go_enter Tryz.func71, Tryz.ntmps71
  go_wp2
  go_ret
  refine ⟨w.heap.size + 1, rfl, ((Below.refl _ w).alloc (Nat.le_refl _) _).alloc (by simp) _, w.heap.size, 1, [⟨-1, false, .slice none 0 0, ⟨#[]⟩⟩], ?_⟩
  have e1 := heap_alloc_new (w.alloc (.cells #[.int .i64 (-1), .bool false, .slice none 0 0, .string ⟨#[]⟩] 164)) (.cells #[.slice (some ⟨w.heap.size, 0, none⟩) 1 1] 167)
  refine ⟨by simpa using e1, ?_, by simp, by simp, by simp, rfl, ?_, ?_⟩
  · have := (World.ownsRow_lit (base := 0) (e := 164) (size := 4) w #[.int .i64 (-1), .bool false, .slice none 0 0, .string ⟨#[]⟩] 1 (Nat.zero_le _) (by decide) rfl).alloc (.cells #[.slice (some ⟨w.heap.size, 0, none⟩) 1 1] 167)
    simpa [PN.cells] using this
  · intro i r x h1 h2
    cases i with
    | zero =>
      simp at h1 h2
      subst h1 h2
      exact ⟨rfl, rfl, rfl, World.ownsRow_nil _ _ _ _, fun b e => (by cases e)⟩
    | succ i => simp at h1
  · intro i j r r' hij h1 h2 b e
    cases i with
    | zero => simp at h1; subst h1; cases e
    | succ i => simp at h1

section
variable {w : World} {F : Nat → Prop} {bf bn cap : Nat} {pn : List PN} {s : List Nd}

set_option maxHeartbeats 400000 in
theorem find_no (hD : PForAt w F bf bn cap pn s) (k : Int) (h : isB s k = false) :
    Calls Tryz.prog 87 #[.pointer (some ⟨bf, 0, none⟩), .int .i64 k] w fun e w' => e = .returned (refusalV k 1) ∧ w' = w := by
  have h0 := hD.nodesCell
  have hk : ¬ (0 ≤ k ∧ k < s.length) := by simpa [isB] using h
  clear hD h
  by_cases h1 : k < 0
  · go_enter Tryz.func87, Tryz.ntmps87
    go_wp2
    go_ret
    exact ⟨rfl, rfl⟩
  · have h2 : (s.length : Int) ≤ k := by omega
    have h1d : decide (k < 0) = false := decide_eq_false h1
    go_enter Tryz.func87, Tryz.ntmps87
    go_wp2
    go_ret
    exact ⟨rfl, rfl⟩

set_option maxHeartbeats 400000 in
theorem find_yes (hD : PForAt w F bf bn cap pn s) (k : Int) (h : isB s k = true) :
    Calls Tryz.prog 87 #[.pointer (some ⟨bf, 0, none⟩), .int .i64 k] w fun e w' => e = .returned .nilIface ∧ w' = w := by
  have h0 := hD.nodesCell
  obtain ⟨h1, h2⟩ := isB_true h
  have h1d : decide (k < 0) = false := decide_eq_false (by omega)
  have h2d : decide ((s.length : Int) ≤ k) = false := decide_eq_false (by omega)
  clear hD h
  go_enter Tryz.func87, Tryz.ntmps87
  go_wp2
  go_ret
  exact ⟨rfl, rfl⟩

set_option maxHeartbeats 400000 in
theorem add_full (hD : PForAt w F bf bn cap pn s) (h40 : 40 ≤ s.length) (p : Int) (t : Bool) (ch : ByteArray) (q : Int) :
    Calls Tryz.prog 143 #[.pointer (some ⟨bf, 0, none⟩), .agg #[.int .i64 p, .bool t, .slice none 0 0, .string ch], .int .i64 q] w fun e w' => e = .returned (.tuple #[.int .i64 0, refusalV q 7]) ∧ Below w.heap.size w w' := by
  have h0 := hD.nodesCell
  have hl := hD.lt.1
  have h1 : (40 : Int) ≤ s.length := by omega
  clear hD
  go_enter Tryz.func143, Tryz.ntmps143
  go_wp2
  go_ret2
  refine ⟨rfl, ?_⟩
  go_grown

set_option maxRecDepth 20000 in
set_option maxHeartbeats 2000000 in
theorem add_some (hD : PForAt w F bf bn cap pn s) (h40 : s.length < 40) (x : Nd) (hp : x.ks = []) (q : Int) :
    Calls Tryz.prog 143 #[.pointer (some ⟨bf, 0, none⟩), .agg #[.int .i64 x.p, .bool x.t, .slice none 0 0, .string (catB x.cs)], .int .i64 q] w fun e w' => e = .returned (.tuple #[.int .i64 s.length, .nilIface]) ∧ Keeps F w w' ∧ PFor w' (fun b => F b ∨ w.heap.size ≤ b) bf (s ++ [x]) := by
  obtain ⟨i0, hi, hz0, hz1, hz2⟩ := info_parts Tryz.info164
  have h0 := hD.nodesCell
  have hlt := hD.lt
  have hl : bf < w.heap.size := hlt.1
  have h1 : ¬ (40 : Int) ≤ s.length := by omega
  have hlen := hD.len
  have HD := hid hD.narrow
  clear hD
  have HD2 := hid (HD.out.below (w' := ((w.alloc (.cells #[.int .i64 x.p, .bool x.t, .slice none 0 0, .string (catB x.cs)] 164)).alloc (.cells #[.int .i64 x.p, .bool x.t, .slice none 0 0, .string (catB x.cs)] 164)).drew) ((((Below.refl _ w).alloc (Nat.le_refl _) _).alloc (by simp) _).drew))
  have HROW : Hid (((w.alloc (.cells #[.int .i64 x.p, .bool x.t, .slice none 0 0, .string (catB x.cs)] 164)).alloc (.cells #[.int .i64 x.p, .bool x.t, .slice none 0 0, .string (catB x.cs)] 164)).drew.ownsRow 0 164 4 (.slice (some ⟨bn, 0, none⟩) s.length cap) s.length (pn.flatMap PN.cells)) := by rw [← hlen]; exact HD2.out.nodes
  have src : ∀ (j : Nat) (u : Value), [Value.int .i64 x.p, .bool x.t, .slice none 0 0, .string (catB x.cs)][j]? = some u → ((w.alloc (.cells #[.int .i64 x.p, .bool x.t, .slice none 0 0, .string (catB x.cs)] 164)).alloc (.cells #[.int .i64 x.p, .bool x.t, .slice none 0 0, .string (catB x.cs)] 164)).drew.cell? ((⟨w.heap.size + 1, 0, none⟩ : Addr).add j) = some u := by
    have := World.news_of_block (heap_alloc_new (w.alloc (.cells #[.int .i64 x.p, .bool x.t, .slice none 0 0, .string (catB x.cs)] 164)) (.cells #[.int .i64 x.p, .bool x.t, .slice none 0 0, .string (catB x.cs)] 164))
    simpa using this
  have SRC := hid src
  clear src
  go_enter Tryz.func143, Tryz.ntmps143
  go_wp2
  go_cut [] from 8 to 33 (fun wc => ∃ g cap' pn2, PForAt wc (fun b => (F b ∧ b < w.heap.size) ∨ w.heap.size + 1 ≤ b) bf g cap' pn2 (s ++ [x]) ∧ Keeps F w wc)
  case first =>
    go_region_law ((refine step_append_lies _ rfl (.tmp 22) (.tmp 24) 165 rfl 0 164 i0 _ 4 56 Tryz.underlying165 hi hz0 hz1 hz2 rfl (by decide) (.slice (some ⟨bn, 0, none⟩) s.length cap) s.length _ (by simp [Act.eval, Act.put]) HROW.out ⟨w.heap.size + 1, 0, none⟩ 1 1 [.int .i64 x.p, .bool x.t, .slice none 0 0, .string (catB x.cs)] (by simp [Act.eval, Act.put]) rfl SRC.out (by simp [Value.oneCell']) (by decide) (by unfold maxLen; omega) (by omega) (Nat.zero_le _) (w.heap.size + 1 + 1) (by simp) ?_
                    intro g cap' w1 ho (hg : World.grownBy _ w1 (some bn)) (hgn : some bn = some g ∨ _) _
                    have hd1 := (hg.block bf (by simp only [World.size_drew, World.size_alloc]; omega) (by simpa using HD2.out.ne)).trans HD2.out.forest
                    have hc1 : w1.cell? ⟨bf, 0, none⟩ = some (.slice (some ⟨bn, 0, none⟩) pn.length cap) := cell_of_heap hd1 0
                    have hf1 := frozen_of_heap hd1 0
                    have HG := hid hg
                    have HO := hid ho
                    have HN := hid hgn
                    clear hd1 hg ho hgn))
    all_goals
      go_wp2_with fail
      go_meet
      case rel =>
        have ho : w1.ownsRow 0 164 4 (.slice (some ⟨g, 0, none⟩) (pn.length + 1) cap') (pn.length + 1) (pn.flatMap PN.cells ++ PN.cells ⟨x.p, x.t, .slice none 0 0, catB x.cs⟩) := by rw [hlen]; exact HO.out
        have hp2 := HD2.out.pushed (B := w.heap.size + 1) (x := x) (by simp only [World.size_drew, World.size_alloc]; omega) HG.out ho (by rcases HN.out with e | e; exact .inl (by cases e; rfl); exact .inr (by simpa using e)) ⟨rfl, rfl, rfl, rfl, hp⟩
        rw [hlen] at hp2
        have hk0 : Keeps F w w1 := ((((Keeps.refl F w).alloc _).alloc _).drew).trans (Keeps.grown HG.out (fun k e => by cases e; exact .inl (.inl HD.out.Fn.1)))
        exact ⟨g, cap', _, hp2, hk0.setCell (p := ⟨bf, 0, none⟩) (.inl HD.out.Ff.1) _⟩
  case rest =>
    obtain ⟨g, cap', pn2, hD2, hk2⟩ := hcut
    have h02 := hD2.nodesCell
    rw [List.length_append] at h02
    have HD3 := hid hD2
    have HK2 := hid hk2
    clear hD2 hk2
    go_wp2
    go_ret2
    refine ⟨by simp, HK2.out, g, cap', pn2, HD3.out.wider ?_⟩
    intro b hb
    rcases hb with hb | hb
    · exact .inl hb.1
    · exact .inr (by omega)
end

end Go.Proofs.YtabogkonklplcaaGreatDoor
