import Derived.Test.YtabogkonklplcaaGreatDoorF03
import Derived.Deep.RegionWith
import Derived.Deep.Cut
import Derived.Deep.CutRange

/- marginref's Insert, where it is done. -/
namespace Go.Proofs.YtabogkonklplcaaGreatDoor
open Go.RowKit
set_option linter.unusedSimpArgs false
set_option linter.unusedVariables false

section
variable {w : World} {F : Nat → Prop} {bd bn cap : Nat} {rn : List RN} {rv : Value} {s : List Nd} {rs : List Sp}

set_option maxRecDepth 20000 in
set_option maxHeartbeats 1000000 in
theorem rinsert_done (hD : RDocAt w F bd bn cap rn rv s []) {ht : Nat → Nat} {B : Nat} (hU : Up s ht B) (i j k : Nat) (x y : Nd) (h : InsOk s i j x y) (hw : Lim (fun c => withinF s c (i : Int) (j : Int)) false) (hk : k ≤ x.ks.length) (hbig : x.ks.length < lots) (hij : i ≠ j) :
    Calls Tryz.prog 75 #[.pointer (some ⟨bd, 0, none⟩), .int .i64 i, .int .i64 j, .int .i64 k] w fun e w' => e = .returned (.agg #[.int .i64 0, .int .i64 0]) ∧ Keeps F w w' ∧
      RDoc w' (fun b => F b ∨ w.heap.size ≤ b) bd ((s.set i { x with ks := x.ks.take k ++ j :: x.ks.drop k }).set j { y with p := i }) [] := by
  obtain ⟨hx, hy, ht0, hj, hyp⟩ := h
  have hi : i < s.length := (List.getElem?_eq_some_iff.1 hx).1
  have hj' : j < s.length := (List.getElem?_eq_some_iff.1 hy).1
  have hp : isB s i = true := isB_of (by omega)
  have hn : isB s j = true := isB_of (by omega)
  have h0 := hD.nodesCell
  have hl := hD.lt.1
  have hl2 := hD.lt.2
  have HX := hid (hx)
  have HY := hid (hy)
  obtain ⟨r, hr, ho, hc0, -, hc2, -⟩ := hD.look hx
  obtain ⟨r', hr', ho', -, -, -, hc3⟩ := hD.look hy
  obtain ⟨a, c, hv⟩ := slice_shape ho.kids
  rw [hv] at hc2
  have HR : Hid (w.ownsRow 0 3 1 (.slice a x.ks.length c) x.ks.length (intsV x.ks)) := by rw [← hv]; exact ho.kids
  rw [ht0] at hc0
  have HD := hid (hD.narrow.faultAt)
  have HU := hid (hU)
  have HW := hid (hw)
  have HBIG := hid (hbig)
  have hj0 : ((j : Int) == 0) = false := by simp; omega
  have hkk : decide ((x.ks.length : Int) < (k : Int)) = false := decide_eq_false (by omega)
  have hyd : decide (0 ≤ y.p) = false := decide_eq_false (by omega)
  clear hD hr ho hx hr' ho' hy ht0 hU hw hbig
  go_enter Tryz.func75, Tryz.ntmps75
  go_wp2_with (first
    | (go_at_call 47; refine (is_at HD.out _).mono ?_; rintro e w' ⟨rfl, rfl⟩)
    | (go_at_call 116; refine (within_at HD.out HU.out _ _ (by omega) HW.out).mono ?_; rintro e w' ⟨rfl, rfl⟩))
  go_cut [] from 13 to 153 (fun wc => ∃ rn2 : List RN, RDocAt wc (fun b => (F b ∧ b < w.heap.size) ∨ w.heap.size + 1 ≤ b) bd bn cap rn2 rv (s.set i { x with ks := x.ks.take k ++ j :: x.ks.drop k }) [] ∧ Keeps F w wc ∧ wc.heap[w.heap.size]? = some (.cells #[.int .i64 0, .int .i64 0] 32 (0, 0)))
  case first =>
    go_region_with (
      go_at_call 117
      refine (with_any x.ks (.slice a x.ks.length c) k j _ ?_ hk HBIG.out).mono ?_
      · exact ((((Keeps.refl (fun _ => False) w).alloc _).drew).row HR.out (fun _ _ e => e))
      rintro e w1 ⟨v', rfl, hrow, hb⟩
      have hD1 : RDocAt w1 (fun b => F b ∧ b < w.heap.size) bd bn cap rn rv s [] := HD.out.below ⟨hb.os, hb.tape, hb.output, hb.size, hb.block⟩
      have h01 := hD1.nodesCell
      obtain ⟨a', c', hv'⟩ := slice_shape hrow
      subst hv'
      obtain ⟨r1, hr1, ho1, -, -, hc21, -⟩ := hD1.look HX.out
      have hf21 := hD1.nodes.frozenAt (i * 4 + 2)
      have HD1 := hid (hD1)
      have HB1 := hid (hb)
      have HROW := hid (hrow)
      have HR1 := hid (hr1)
      have HO1 := hid (ho1)
      clear hD1 hb hrow hr1 ho1)
    all_goals
      go_wp2_with fail
      go_meet
      case rel =>
        have hrow : w1.ownsRow (w.heap.size + 1) 3 1 (.slice a' (x.ks.length + 1) c') (x.ks.take k ++ j :: x.ks.drop k).length (intsV (x.ks.take k ++ j :: x.ks.drop k)) := by
          have := HROW.out
          rw [show (x.ks.take k ++ j :: x.ks.drop k).length = x.ks.length + 1 by simp; omega]
          simp only [World.size_drew, World.size_alloc] at this
          exact this
        obtain ⟨rn2, h2⟩ := HD1.out.newKids (N := w.heap.size + 1) (fun b e => by omega) HX.out hrow
        have hk1 : Keeps F w w1 := ((Keeps.refl F w).alloc _).trans (Keeps.of_below ⟨HB1.out.os, HB1.out.tape, HB1.out.output, HB1.out.size, HB1.out.block⟩)
        have hq : w1.heap[w.heap.size]? = some (.cells #[.int .i64 0, .int .i64 0] 32 (0, 0)) := (HB1.out.block w.heap.size (by simp)).trans (heap_alloc_new w _)
        refine ⟨rn2, h2, hk1.setCell (p := ⟨bn, i * 4 + 2, none⟩) (.inl HD1.out.Fn.1) _, ?_⟩
        rw [Below.heap_setCell _ _ _ _ (by simp; omega)]
        exact hq
  case rest =>
    obtain ⟨rn2, hD2, hK2, hq2⟩ := hcut
    have hl21 := hD2.lt
    have hy2 : (s.set i { x with ks := x.ks.take k ++ j :: x.ks.drop k })[j]? = some y := by rw [List.getElem?_set, if_neg hij]; exact HY.out
    obtain ⟨r2, hr2, ho2, -, -, -, hc32⟩ := hD2.look hy2
    have hf32 := hD2.nodes.frozenAt (j * 4 + 3)
    have h02 := hD2.nodesCell
    rw [List.length_set] at h02
    have hrv : rv = .slice none 0 0 ∨ ∃ a c, rv = .slice a 0 c := by
      obtain ⟨a, c, e⟩ := slice_shape hD2.ranges
      exact .inr ⟨a, c, e⟩
    obtain ⟨ra, rc, hrv⟩ : ∃ a c, rv = .slice a 0 c := slice_shape hD2.ranges
    have h12 := hD2.rangesCell
    rw [hrv] at h12
    have hqc0 : wc.cell? ⟨w.heap.size, 0, none⟩ = some (.int .i64 0) := cell_of_heap hq2 0
    have hqc1 : wc.cell? ⟨w.heap.size, 1, none⟩ = some (.int .i64 0) := cell_of_heap hq2 1
    have hqf0 := frozen_of_heap hq2 0
    have hqf1 := frozen_of_heap hq2 1
    have hne1 : ¬ bn = w.heap.size := by omega
    have hne2 : ¬ bd = bn := HD.out.ne
    have HD2 := hid (hD2)
    have HK2 := hid (hK2)
    have HY2 := hid (hy2)
    clear hD2 hK2 hq2 hr2 ho2 hy2 hrv
    go_wp2
    go_rounds 1
    go_wp2
    refine bodyPost_ret (v := .agg #[.int .i64 0, .int .i64 0]) (by simp [results, Tryz.results75, go_sem, *]) rfl ?_
    obtain ⟨rn3, h3⟩ := HD2.out.newPar (i : Int) HY2.out
    refine ⟨rfl, ((HK2.out.setCell (p := ⟨bn, j * 4 + 3, none⟩) (.inl HD.out.Fn.1) _).setCell (p := ⟨w.heap.size, 0, none⟩) (.inr (Nat.le_refl _)) _).setCell (p := ⟨w.heap.size, 1, none⟩) (.inr (Nat.le_refl _)) _, bn, cap, rn3, rv, ?_⟩
    refine (h3.keeps (((Keeps.refl (fun b => b = w.heap.size) _).setCell (p := ⟨w.heap.size, 0, none⟩) (.inl rfl) _).setCell (p := ⟨w.heap.size, 1, none⟩) (.inl rfl) _) ?_).wider ?_
    · intro b hb e
      rcases hb with hb | hb <;> omega
    · intro b hb
      rcases hb with hb | hb
      · exact .inl hb.1
      · exact .inr (by omega)
end

end Go.Proofs.YtabogkonklplcaaGreatDoor
