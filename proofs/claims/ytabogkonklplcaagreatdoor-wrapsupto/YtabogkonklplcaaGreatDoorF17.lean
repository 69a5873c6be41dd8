import Derived.Test.YtabogkonklplcaaGreatDoorF03
import Derived.Deep.RegionWith
import Derived.Deep.RegionHeld3
import Derived.Deep.Cut
import Derived.Deep.CutRange

/- marginref's Remove. -/
namespace Go.Proofs.YtabogkonklplcaaGreatDoor
open Go.RowKit
set_option linter.unusedSimpArgs false
set_option linter.unusedVariables false

section
variable {w : World} {F : Nat → Prop} {bd bn cap : Nat} {rn : List RN} {rv : Value} {s : List Nd} {rs : List Sp}

theorem RDocAt.drewN (h : RDocAt w F bd bn cap rn rv s rs) (n : Nat) : RDocAt (w.drewN n) F bd bn cap rn rv s rs :=
  h.keeps (G := fun _ => False) ⟨rfl, rfl, rfl, Nat.le_refl _, fun _ _ _ => rfl⟩ (fun _ _ e => e)
theorem RDocAt.drew (h : RDocAt w F bd bn cap rn rv s rs) : RDocAt w.drew F bd bn cap rn rv s rs := h.drewN 1

theorem index_at (hD : RDocAt w F bd bn cap rn rv s rs) (i j m : Nat) (x y : Nd) (hx : s[i]? = some x) (hj : x.p = j) (hy : s[j]? = some y) (hbig : y.ks.length < lots) (hm : y.ks[m]? = some i) (hno : i ∉ y.ks.take m) :
    Calls Tryz.prog 121 #[.pointer (some ⟨bd, 0, none⟩), .int .i64 i] w fun e w' => e = .returned (.int .i64 m) ∧ Drawn w w' := by
  refine (index_any hD i j x y hx hj hy hbig).mono ?_
  rintro e w' ⟨hd, q, rfl, hq⟩
  refine ⟨ret_int ?_, hd⟩
  rcases hq with ⟨m', rfl, hm', hno'⟩ | ⟨_, hn⟩
  · have h1 : ¬ m' < m := fun h => hno (List.mem_of_getElem? (i := m') (by rw [List.getElem?_take, if_pos h]; exact hm'))
    have h2 : ¬ m < m' := fun h => hno' (List.mem_of_getElem? (i := m) (by rw [List.getElem?_take, if_pos h]; exact hm))
    omega
  · exact absurd (List.mem_of_getElem? hm) hn

set_option maxRecDepth 20000 in
set_option maxHeartbeats 1000000 in
theorem rremove_node (hD : RDocAt w F bd bn cap rn rv s rs) (n : Int) (hn : isB s n = false) :
    Calls Tryz.prog 76 #[.pointer (some ⟨bd, 0, none⟩), .int .i64 n] w fun e w' => e = .returned (.agg #[.int .i64 n, .int .i64 1]) ∧ Below w.heap.size w w' := by
  have HD := hid hD.faultAt
  clear hD
  go_enter Tryz.func76, Tryz.ntmps76
  go_wp2_with (first
    | (go_at_call 47; refine (is_at HD.out _).mono ?_; rintro e w' ⟨rfl, rfl⟩)
    | (go_at_call 48; refine (no_any _ _ _).mono ?_; rintro e w' ⟨rfl, rfl⟩))
  go_returns
  refine ⟨rfl, ?_⟩
  go_grown

set_option maxRecDepth 20000 in
set_option maxHeartbeats 1000000 in
theorem rremove_none (hD : RDocAt w F bd bn cap rn rv s rs) (i : Nat) (x : Nd) (hx : s[i]? = some x) (hp : x.p < 0) :
    Calls Tryz.prog 76 #[.pointer (some ⟨bd, 0, none⟩), .int .i64 i] w fun e w' => e = .returned (.agg #[.int .i64 i, .int .i64 4]) ∧ Below w.heap.size w w' := by
  have hi : i < s.length := (List.getElem?_eq_some_iff.1 hx).1
  have hn : isB s i = true := isB_of (by omega)
  have h0 := hD.nodesCell
  have hl := hD.lt.1
  have hl2 := hD.lt.2
  obtain ⟨r, hr, ho, -, -, -, hc3⟩ := hD.look hx
  have HD := hid hD.faultAt
  clear hD hr ho hx
  go_enter Tryz.func76, Tryz.ntmps76
  go_wp2_with (first
    | (go_at_call 47; refine (is_at HD.out _).mono ?_; rintro e w' ⟨rfl, rfl⟩)
    | (go_at_call 48; refine (no_any _ _ _).mono ?_; rintro e w' ⟨rfl, rfl⟩))
  go_returns
  refine ⟨rfl, ?_⟩
  go_grown

/-- What the statement that writes the children has left. -/
theorem rem_rel {w1 wq : World} {n0 : Nat} {v' : Value} {ks' : List Nat} {j : Nat} {y : Nd} (hD1 : RDocAt w1 (fun b => F b ∧ b < w.heap.size) bd bn cap rn rv s []) (hy : s[j]? = some y)
    (hb : Below wq.heap.size wq w1) (hrow : w1.ownsRow (w.heap.size + 1) 3 1 v' ks'.length (intsV ks'))
    (hq : wq = ((w.alloc (.cells #[.int .i64 0, .int .i64 0] 32)).drewN n0)) :
    ∃ rn2 : List RN, RDocAt (w1.setCell ⟨bn, j * 4 + 2, none⟩ v') (fun b => (F b ∧ b < w.heap.size) ∨ w.heap.size + 1 ≤ b) bd bn cap rn2 rv (s.set j { y with ks := ks' }) [] ∧ Keeps F w (w1.setCell ⟨bn, j * 4 + 2, none⟩ v') ∧
      (w1.setCell ⟨bn, j * 4 + 2, none⟩ v').heap[w.heap.size]? = some (.cells #[.int .i64 0, .int .i64 0] 32 (0, 0)) := by
  subst hq
  obtain ⟨rn2, h2⟩ := hD1.newKids (N := w.heap.size + 1) (fun b e => by omega) hy hrow
  have hk1 : Keeps F w w1 := ((Keeps.refl F w).alloc (.cells #[.int .i64 0, .int .i64 0] 32)).trans (Keeps.of_below ⟨hb.os, hb.tape, hb.output, hb.size, hb.block⟩)
  have hq : w1.heap[w.heap.size]? = some (.cells #[.int .i64 0, .int .i64 0] 32 (0, 0)) := (hb.block w.heap.size (by show w.heap.size < (w.alloc _).heap.size; simp)).trans (heap_alloc_new w _)
  refine ⟨rn2, h2, hk1.setCell (p := ⟨bn, j * 4 + 2, none⟩) (.inl hD1.Fn.1) _, ?_⟩
  rw [Below.heap_setCell _ _ _ _ (by have := hD1.Fn.2; simp; omega)]
  exact hq

set_option maxRecDepth 20000 in
set_option maxHeartbeats 8000000 in
theorem rremove_done (hD : RDocAt w F bd bn cap rn rv s []) (i j m : Nat) (x y : Nd) (hx : s[i]? = some x) (hj : x.p = j) (hy : s[j]? = some y) (hm : y.ks[m]? = some i) (hno : i ∉ y.ks.take m) (hbig : y.ks.length < lots) (hij : i ≠ j) :
    Calls Tryz.prog 76 #[.pointer (some ⟨bd, 0, none⟩), .int .i64 i] w fun e w' => e = .returned (.agg #[.int .i64 0, .int .i64 0]) ∧ Keeps F w w' ∧
      RDoc w' (fun b => F b ∨ w.heap.size ≤ b) bd ((s.set j { y with ks := y.ks.take m ++ y.ks.drop (m + 1) }).set i { x with p := -1 }) [] := by
  have hi : i < s.length := (List.getElem?_eq_some_iff.1 hx).1
  have hj' : j < s.length := (List.getElem?_eq_some_iff.1 hy).1
  have hml : m < y.ks.length := (List.getElem?_eq_some_iff.1 hm).1
  have hn : isB s i = true := isB_of (by omega)
  have h0 := hD.nodesCell
  have hl := hD.lt.1
  have hl2 := hD.lt.2
  obtain ⟨r, hr, ho, -, -, -, hc3⟩ := hD.look hx
  rw [hj] at hc3
  obtain ⟨r', hr', ho', -, -, hc2, -⟩ := hD.look hy
  obtain ⟨a, c, hv⟩ := slice_shape ho'.kids
  rw [hv] at hc2
  have HR : Hid (w.ownsRow 0 3 1 (.slice a y.ks.length c) y.ks.length (intsV y.ks)) := by rw [← hv]; exact ho'.kids
  obtain ⟨ra, rc, hrv⟩ : ∃ a c, rv = .slice a 0 c := slice_shape hD.ranges
  have h1 := hD.rangesCell
  rw [hrv] at h1
  have HD := hid hD.narrow.faultAt
  have HX := hid hx
  have HJ := hid hj
  have HY := hid hy
  have HM := hid hm
  have HNO := hid hno
  have HBIG := hid hbig
  clear hD hr ho hr' ho' hx hj hy hm hno hbig hv hrv
  go_enter Tryz.func76, Tryz.ntmps76
  go_wp2_with (go_at_call 47; refine (is_at HD.out _).mono ?_; rintro e w' ⟨rfl, rfl⟩)
  go_rounds 1
  go_cut [] from 8 to 98 (fun wc => ∃ rn2 : List RN, RDocAt wc (fun b => (F b ∧ b < w.heap.size) ∨ w.heap.size + 1 ≤ b) bd bn cap rn2 rv (s.set j { y with ks := y.ks.take m ++ y.ks.drop (m + 1) }) [] ∧ Keeps F w wc ∧ wc.heap[w.heap.size]? = some (.cells #[.int .i64 0, .int .i64 0] 32 (0, 0)))
  case first =>
    go_region_with (first
      | (go_at_call 121
         refine (index_at HD.out.drew i j m x y HX.out HJ.out HY.out HBIG.out HM.out HNO.out).mono ?_
         rintro e w0 ⟨rfl, n0, rfl⟩)
      | (go_at_call 120
         refine (without_any y.ks (.slice a y.ks.length c) m _ ?_ hml HBIG.out).mono ?_
         · exact (((Keeps.refl (fun _ => False) w).alloc (.cells #[.int .i64 0, .int .i64 0] 32)).row HR.out (fun _ _ e => e))
         rintro e w1 ⟨v', rfl, hrow, hb⟩
         have hD1 : RDocAt w1 (fun b => F b ∧ b < w.heap.size) bd bn cap rn rv s [] := HD.out.below ⟨hb.os, hb.tape, hb.output, hb.size, hb.block⟩
         have h01 := hD1.nodesCell
         obtain ⟨a', c', hv'⟩ := slice_shape hrow
         subst hv'
         obtain ⟨r1, hr1, ho1, -, -, hc21, -⟩ := hD1.look HY.out
         have hf21 := hD1.nodes.frozenAt (j * 4 + 2)
         have HD1 := hid hD1
         have HB1 := hid hb
         have HROW := hid hrow
         clear hD1 hb hrow hr1 ho1))
    all_goals
      go_wp2_with fail
      go_meet
      case rel =>
        have hrow : w1.ownsRow (w.heap.size + 1) 3 1 (.slice a' (y.ks.length - 1) c') (y.ks.take m ++ y.ks.drop (m + 1)).length (intsV (y.ks.take m ++ y.ks.drop (m + 1))) := by
          have := HROW.out
          rw [show (y.ks.take m ++ y.ks.drop (m + 1)).length = y.ks.length - 1 by simp; omega]
          simp only [World.heap_drewN, World.size_drew, World.size_alloc] at this
          exact this
        exact rem_rel (n0 := 1 + n0) HD1.out HY.out HB1.out hrow rfl
  case rest =>
    obtain ⟨rn2, hD2, hK2, hq2⟩ := hcut
    have hl21 := hD2.lt
    have hx2 : (s.set j { y with ks := y.ks.take m ++ y.ks.drop (m + 1) })[i]? = some x := by rw [List.getElem?_set, if_neg (fun e => hij e.symm)]; exact HX.out
    obtain ⟨r2, hr2, ho2, -, -, -, hc32⟩ := hD2.look hx2
    have hf32 := hD2.nodes.frozenAt (i * 4 + 3)
    have h02 := hD2.nodesCell
    rw [List.length_set] at h02
    have hqc0 : wc.cell? ⟨w.heap.size, 0, none⟩ = some (.int .i64 0) := cell_of_heap hq2 0
    have hqc1 : wc.cell? ⟨w.heap.size, 1, none⟩ = some (.int .i64 0) := cell_of_heap hq2 1
    have hqf0 := frozen_of_heap hq2 0
    have hqf1 := frozen_of_heap hq2 1
    have hne1 : ¬ bn = w.heap.size := by omega
    have hne2 : ¬ bd = bn := HD.out.ne
    have HD2 := hid hD2
    have HK2 := hid hK2
    have HX2 := hid hx2
    clear hD2 hK2 hq2 hr2 ho2 hx2
    go_wp2
    refine bodyPost_ret (v := .agg #[.int .i64 0, .int .i64 0]) (by simp [results, Tryz.results76, go_sem, *]) rfl ?_
    obtain ⟨rn3, h3⟩ := HD2.out.newPar (-1 : Int) HX2.out
    refine ⟨rfl, ((HK2.out.setCell (p := ⟨bn, i * 4 + 3, none⟩) (.inl HD.out.Fn.1) _).setCell (p := ⟨w.heap.size, 0, none⟩) (.inr (Nat.le_refl _)) _).setCell (p := ⟨w.heap.size, 1, none⟩) (.inr (Nat.le_refl _)) _, bn, cap, rn3, rv, ?_⟩
    refine (h3.keeps (((Keeps.refl (fun b => b = w.heap.size) _).setCell (p := ⟨w.heap.size, 0, none⟩) (.inl rfl) _).setCell (p := ⟨w.heap.size, 1, none⟩) (.inl rfl) _) ?_).wider ?_
    · intro b hb e
      rcases hb with hb | hb <;> omega
    · intro b hb
      rcases hb with hb | hb
      · exact .inl hb.1
      · exact .inr (by omega)
end

end Go.Proofs.YtabogkonklplcaaGreatDoor
