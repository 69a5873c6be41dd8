import Derived.Test.YtabogkonklplcaaGreatDoorE17
import Derived.Maps.AppendAt
import Derived.Maps.OwnIn
import Derived.Test.YtabogkonklplcaaGreatDoorE19
import Derived.Test.YtabogkonklplcaaGreatDoorE18

/- slices.Values' function; slices.AppendSeq, slices.Collect over a function that gives so many numbers. -/
namespace Go.Proofs.YtabogkonklplcaaGreatDoor
open Go.RowKit Go.Shelf
set_option linter.unusedSimpArgs false
set_option linter.unusedVariables false
attribute [local go_sem] Oper.semAt_some

set_option maxHeartbeats 400000 in
theorem values_any (a : Option Addr) (n c : Nat) (w : World) : Calls Tryz.prog 88 #[.slice a n c] w fun e w' =>
    e = .returned (.func (.func 136) #[] #[ptr w.heap.size]) ∧ w' = w.alloc (.cells #[.slice a n c] 24) := by
  go_enter Tryz.func88, Tryz.ntmps88
  go_wp2
  go_ret
  exact ⟨rfl, rfl⟩

set_option maxRecDepth 20000 in
set_option maxHeartbeats 2000000 in
theorem values1_ok {ks : List Nat} {v : Value} {w : World} {O : Nat → Prop} {b : Nat} (hb : w.heap[b]? = some (.cells #[v] 24 (0, 0))) (hrow : w.ownsRow 0 3 1 v ks.length (intsV ks)) (ob : ¬ O b) (og : ∀ g, v.ownBlock = some g → ¬ O g) (hlen : ks.length < lots) :
    SeqOk Tryz.prog 136 #[ptr b] ks w O := by
  intro l J Jx O1 w1 hbw hO1 hlt mJ mJx hY hJ0
  have hlb := heap_lt hb
  have p1 : ¬ O1 b := fun e => (hO1 _ e).elim ob (fun e => by omega)
  have pg : ∀ g, v.ownBlock = some g → ¬ O1 g := fun g hg e => (hO1 _ e).elim (og g hg) (fun e => by have := (hrow.lt g hg).2; omega)
  have hb1 : w1.heap[b]? = some (.cells #[v] 24 (0, 0)) := (hbw.block b hlb).trans hb
  have hrow1 : w1.ownsRow 0 3 1 v ks.length (intsV ks) := (Keeps.of_below (F := fun _ => False) hbw).row hrow (fun _ _ e => e)
  obtain ⟨sa, sc, hkv⟩ : ∃ a c, v = .slice a ks.length c := by
    rcases row_cases hrow with ⟨h1, h2⟩ | ⟨g, c, h1⟩
    · exact ⟨none, 0, by rw [h1, h2]⟩
    · exact ⟨_, _, h1⟩
  subst hkv
  have e1 : w1.cell? ⟨b, 0, none⟩ = some (.slice sa ks.length sc) := cell_of_heap hb1 0
  have hl2 : ks.length < 2000000 := by unfold lots at hlen; exact hlen
  refine callsIn_wide.1 (callsIn_of_wp (F := Fence.wide) (n := 1) Tryz.func136 rfl trivial ?_ rfl)
  simp only [Tryz.ntmps136, List.size_toArray, List.length_cons, List.length_nil, Nat.reduceAdd, Nat.reduceSub, Array.replicate_succ, Array.replicate_zero, List.push_toArray, List.append_toArray, List.nil_append, List.cons_append]
  have HR1 := hid hrow1
  clear hrow1 hrow hb hb1
  gi_wp2
  gi_loopw [7] (fun p wr => ∃ (i : Nat) (O' : Nat → Prop), i ≤ ks.length ∧ p = .int .i64 i ∧ Stp O1 O' w1 wr ∧ J (ks.take i) O' wr) (fun p _ => ks.length - (intOf p).toNat)
  case atStart => exact ⟨0, O1, Nat.zero_le _, rfl, Stp.refl hlt, by simpa using hJ0⟩
  case round =>
    obtain ⟨i, O', hi, rfl, st, hJ⟩ := hrel
    by_cases hil : i < ks.length
    · obtain ⟨c, hc⟩ : ∃ c, ks[i]? = some c := ⟨_, List.getElem?_eq_getElem hil⟩
      have hrw := st.keeps.row HR1.out pg
      rcases row_cases hrw with ⟨_, hl0⟩ | ⟨g, cc, hv⟩
      · omega
      cases hv
      have cel : wr.cell? ⟨g, i, none⟩ = some (.int .i64 (c : Int)) := by
        rw [hrw.cellAt i (by omega)]
        simp [intsV, hc]
      have htk : ks.take (i + 1) = ks.take i ++ [c] := by rw [List.take_add_one, hc]; rfl
      obtain ⟨fn, tmps, assign, body, hy, hR⟩ := hY 0 (ks.take i) c O' wr hJ (by rw [← htk]; exact List.take_prefix _ _) st.there
      have HR := hid hR
      have hilI : (i : Int) < ks.length := by omega
      have ST := hid st
      have HTK := hid htk
      dsimp only [encN] at hy
      clear hR hJ hc hrw st htk
      gi_wp2_with (refine HR.out.mono ?_; clear HR; rintro e W3 ⟨O3, st3, (⟨rfl, hJ3⟩ | ⟨rfl, hX3⟩)⟩)
      · go_roundw
        case rel => exact ⟨i + 1, O3, by omega, by go_num, ST.out.trans st3, by rw [HTK.out]; exact hJ3⟩
        case measure => simp [intOf]; omega
      · refine bodyPost_ret (results_none rfl _ _ _) rfl ?_
        exact ⟨⟨_, rfl⟩, O3, ST.out.trans st3, .inr ⟨_, by rw [← HTK.out]; exact List.take_prefix _ _, hX3⟩⟩
    · obtain rfl : i = ks.length := by omega
      have hilI : ¬ (ks.length : Int) < ks.length := by omega
      have HJ := hid hJ
      have ST := hid st
      clear hJ st
      gi_wp2
      go_end0
      refine ⟨⟨_, rfl⟩, O', ST.out, .inl ?_⟩
      have := HJ.out
      rwa [List.take_of_length_le (Nat.le_refl _)] at this

theorem slice_form {w : World} {e : TypeId} {z n : Nat} {v : Value} {xs : List Value} (h : w.ownsRow 0 e z v n xs) : ∃ a c, v = .slice a n c := by
  rcases row_cases h with ⟨e1, e2⟩ | ⟨g, c, e1⟩
  · exact ⟨none, 0, by rw [e1, e2]⟩
  · exact ⟨_, _, e1⟩

theorem Tryz.infoInt : (Tryz.prog.info? 3).map (fun i => (i.zero, i.size, i.bytes)) = some (some (.int .i64 0), 1, 8) := by kernel_rfl

set_option maxRecDepth 20000 in
set_option maxHeartbeats 2000000 in
theorem appendSeq_any {gf : Nat} {lb : Array Value} (eg : ∀ args w, (callFunc gf args).run Tryz.prog w = .ok (.enter gf args) w) {xs : List Nat} (hlen : xs.length < lots) {w : World}
    (hseq : ∀ (w1 : World) (O : Nat → Prop), Below w.heap.size w w1 → (∀ k, O k → w.heap.size ≤ k) → SeqOk Tryz.prog gf lb xs w1 O) :
    Calls Tryz.prog 137 #[.slice none 0 0, .func (.func gf) #[] lb] w fun e w' => ∃ v, e = .returned v ∧ w'.ownsRow 0 3 1 v xs.length (intsV xs) ∧ Below w.heap.size w w' ∧ (∀ b, v.ownBlock = some b → w.heap.size ≤ b) := by
  obtain ⟨i0, hi, hz0, hz1, hz2⟩ := info_parts Tryz.infoInt
  refine callsIn_wide.1 (callsIn_of_wp_marks (F := Fence.wide) (n := 1) Tryz.func137 rfl trivial ?_ rfl)
  simp only [Tryz.ntmps137, List.size_toArray, List.length_cons, List.length_nil, Nat.reduceAdd, Nat.reduceSub, Array.replicate_succ, Array.replicate_zero, List.push_toArray, List.append_toArray, List.nil_append, List.cons_append]
  gi_wp2
  obtain ⟨wb, hwb⟩ : ∃ wb, w.alloc (.cells #[.slice none 0 0] 24) = wb := ⟨_, rfl⟩
  have hszb : wb.heap.size = w.heap.size + 1 := by rw [← hwb]; simp
  have hbb : Below w.heap.size w wb := by rw [← hwb]; exact (Below.refl _ w).alloc (Nat.le_refl _) _
  have x0 : wb.heap[w.heap.size]? = some (.cells #[.slice none 0 0] 24 (0, 0)) := by rw [← hwb]; exact heap_alloc_new w _
  have hl2 : xs.length < 2000000 := by unfold lots at hlen; exact hlen
  rw [hwb]
  refine range_mine (gf := gf) (lb := lb) rfl eg rfl (O := fun b => b = w.heap.size) (fun b e => by omega) (hseq wb _ hbb (fun k e => by omega))
    (fun pre O3 W => ∃ v, O3 = (fun b => b = w.heap.size ∨ v.ownBlock = some b) ∧ W.heap[w.heap.size]? = some (.cells #[v] 24 (0, 0)) ∧ W.ownsRow 0 3 1 v pre.length (intsV pre) ∧ v.ownBlock ≠ some w.heap.size ∧ Stp (fun b => b = w.heap.size) O3 wb W)
    (fun _ _ _ => False) ?mI ?mIx ?h0
    (fun y => Act.mk #[Value.slice none 0 0, Value.func (Fn.func gf) #[] lb, Value.pointer (some { block := w.heap.size, off := 0 }),
          undef, Value.slice none 0 0, Value.int IntKind.i64 y, Value.func (Fn.func gf) #[] lb, Value.int IntKind.i64 y, undef, undef, undef, undef, undef] []) ?assign ?body ?done ?stop
  case mI =>
    rintro pre O3 X Y ⟨v, rfl, h2, h3, h4, h5⟩ hk
    exact ⟨v, rfl, by rw [hk.block _ (heap_lt h2) (fun e => e.1 (.inl rfl))]; exact h2, hk.row h3 (fun b e e2 => e2.1 (.inr e)), h4, stp_mine (Nat.le_refl _) h5 hk⟩
  case mIx => intro pre O3 X Y h _; exact h
  case h0 =>
    refine ⟨.slice none 0 0, ?_, x0, World.ownsRow_nil _ _ _ _, by simp [Value.ownBlock], ?_⟩
    · funext b; simp [Value.ownBlock]
    · exact Stp.refl (fun b e => by omega)
  case assign =>
    intro m l' y W K hK
    dsimp only [encN]
    gi_wp2
    exact hK
  case body =>
    rintro m l' pre y O3 W hpre hO3 ⟨v, rfl, h2, h3, h4, h5⟩
    have hpl : pre.length + 1 ≤ xs.length := by have := hpre.length_le; simpa using this
    have f1 : W.cell? ⟨w.heap.size, 0, none⟩ = some v := cell_of_heap h2 0
    have hlW : w.heap.size < W.heap.size := heap_lt h2
    have H2 := hid h2
    have H3 := hid h3
    have H4 := hid h4
    have H5 := hid h5
    have HO := hid hO3
    clear h2 h3 h4 h5 hO3 hpre x0
    gi_wp2_with (gi_at_builtin; refine wpListIn_append_own_at _ rfl _ _ 24 rfl 0 3 i0 (.int .i64 0) 1 8 Tryz.underlying24 hi hz0 hz1 hz2 rfl (by decide) v _ _ rfl (H3.out.alloc _) ⟨W.heap.size, 0, none⟩ 1 1 [.int .i64 (y : Int)] rfl rfl (cell_one_new _ _ _) (by simp [Value.oneCell']) (by unfold maxLen; omega) (by omega) (Nat.zero_le _) ?_
                 intro v' w1 hown' hgrow _ hob
                 obtain ⟨g', cap', rfl⟩ := ownsRow_succ hown'
                 have hq1 := (hgrow.block w.heap.size (by simp only [World.size_alloc]; omega) (fun e => H4.out e.symm)).trans ((Below.heap_alloc _ _ _ hlW).trans H2.out)
                 have hc1 : w1.cell? ⟨w.heap.size, 0, none⟩ = some v := cell_of_heap hq1 0
                 have hf1 := frozen_of_heap hq1 0
                 have HQ := hid hq1
                 have HW := hid hown'
                 have HG := hid hgrow
                 have HB := hid hob
                 clear hown' hgrow hob hq1)
    have hgb : v.ownBlock = some g' ∨ g' = W.heap.size + 1 := by
      rcases HB.out with e | e
      · left; rw [← e]; rfl
      · right; simpa [Value.ownBlock] using e
    have hg' : g' ≠ w.heap.size := by
      rcases hgb with e | e
      · rintro rfl; exact H4.out e
      · omega
    have hs : Stp (fun b => b = w.heap.size ∨ v.ownBlock = some b) (fun b => b = w.heap.size ∨ (Value.slice (some ⟨g', 0, none⟩) (pre.length + 1) cap').ownBlock = some b) W (w1.setCell ⟨w.heap.size, 0, none⟩ (.slice (some ⟨g', 0, none⟩) (pre.length + 1) cap')) := by
      refine ⟨?_, ?_, ?_⟩
      · exact (((Keeps.refl (fun b => b = w.heap.size ∨ v.ownBlock = some b) W).alloc _).trans (Keeps.grown HG.out (fun k e => .inl (.inl (.inr e))))).setCell (p := ⟨w.heap.size, 0, none⟩) (.inl (.inl rfl)) _
      · rintro b (e | e)
        · exact .inl (.inl e)
        · have e' : g' = b := by simpa [Value.ownBlock] using e
          subst e'
          rcases hgb with e | e
          · exact .inl (.inr e)
          · exact .inr (by omega)
      · have hz : (w1.setCell ⟨w.heap.size, 0, none⟩ (.slice (some ⟨g', 0, none⟩) (pre.length + 1) cap')).heap.size = w1.heap.size := by simp
        rintro b (e | e)
        · rw [hz, e]; exact heap_lt HQ.out
        · have e' : g' = b := by simpa [Value.ownBlock] using e
          subst e'
          rw [hz]
          exact (HW.out.lt g' rfl).2
    refine ⟨_, hs, _, rfl, by rw [heap_setCell_same w1 _ 0 _ _ _ HQ.out]; rfl, ?_, by simpa [Value.ownBlock] using hg', H5.out.trans hs⟩
    rw [List.length_append]
    have := row_setCell_other HW.out (p := ⟨w.heap.size, 0, none⟩) (by simpa [Value.ownBlock] using hg') (.slice (some ⟨g', 0, none⟩) (pre.length + 1) cap')
    simpa [intsV] using this
  case done =>
    rintro O5 W st5 hn5 ⟨v, rfl, h2, h3, h4, h5⟩ hD5
    obtain ⟨sa, sc, hkv⟩ : ∃ a c, v = .slice a xs.length c := by
      rcases row_cases h3 with ⟨e1, e2⟩ | ⟨g, c, e1⟩
      · exact ⟨none, 0, by rw [e1, e2]⟩
      · exact ⟨_, _, e1⟩
    subst hkv
    have f1 : W.cell? ⟨w.heap.size, 0, none⟩ = some (.slice sa xs.length sc) := cell_of_heap h2 0
    have H := hid (And.intro st5 (And.intro hn5 (And.intro h3 (And.intro h4 hD5))))
    have HZ := hid hszb
    clear st5 hn5 h2 h3 h4 h5 hD5 x0 hszb
    gi_wp2
    obtain ⟨st5, hn5, h3, h4, hD5⟩ := H.out
    have hszb := HZ.out
    refine leaves_marks [wb.heap.size] _ (by simp) (fun D hm => ?_) (fun w' hk' => ⟨.slice sa xs.length sc, ?_, _, rfl, ?_, ?_, ?_⟩)
    · obtain rfl : D = wb.heap.size := by simpa using hm
      exact hD5
    · exact results_tmp (fn := Tryz.f137) (t := 4) rfl _ _ _
    · refine hk'.row h3 (fun b e e2 => ?_)
      have : b = wb.heap.size := by simpa using e2
      subst this
      exact hn5 (.inr e)
    · have k1 : Keeps (fun _ => False) w wb := Keeps.of_below hbb
      have k2 : Keeps (fun _ => False) w W := k1.trans (st5.keeps.mono (fun b _ e => .inr (by omega)))
      exact (k2.trans (hk'.mono (fun b _ e => .inr (by simp at e; omega)))).below
    · intro b e
      rcases st5.gains b (.inr e) with e1 | e1
      · omega
      · omega
  case stop =>
    rintro O5 pre W hpre st5 hn5 h hD5
    exact h.elim

set_option maxHeartbeats 400000 in
theorem collect_any {gf : Nat} {lb : Array Value} (eg : ∀ args w, (callFunc gf args).run Tryz.prog w = .ok (.enter gf args) w) {xs : List Nat} (hlen : xs.length < lots) {w : World}
    (hseq : ∀ (w1 : World) (O : Nat → Prop), Below w.heap.size w w1 → (∀ k, O k → w.heap.size ≤ k) → SeqOk Tryz.prog gf lb xs w1 O) :
    Calls Tryz.prog 89 #[.func (.func gf) #[] lb] w fun e w' => ∃ a c, e = .returned (.slice a xs.length c) ∧ w'.ownsRow 0 3 1 (.slice a xs.length c) xs.length (intsV xs) ∧ Below w.heap.size w w' ∧ (∀ b, (Value.slice a xs.length c).ownBlock = some b → w.heap.size ≤ b) := by
  have C := hid (appendSeq_any eg hlen hseq)
  clear hseq eg
  go_enter Tryz.func89, Tryz.ntmps89
  go_wp2_with (go_at_call 137; refine C.out.mono ?_; rintro e w1 ⟨v, rfl, h1, h2, h3⟩; obtain ⟨sa, sc, rfl⟩ := slice_form h1)
  go_ret
  exact ⟨_, _, rfl, h1, h2, h3⟩

end Go.Proofs.YtabogkonklplcaaGreatDoor

/- marginref's Split: what it refuses. -/
namespace Go.Proofs.YtabogkonklplcaaGreatDoor
open Go.RowKit
set_option linter.unusedSimpArgs false
set_option linter.unusedVariables false

section
variable {w : World} {F : Nat → Prop} {bd bn cap : Nat} {rn : List RN} {rv : Value} {s : List Nd} {rs : List Sp}

set_option maxRecDepth 20000 in
set_option maxHeartbeats 1000000 in
theorem rsplit_unfit (n k : Int) (f0 f1 : Int) (h1 : f1 ≠ 0) (hT : Calls Tryz.prog 123 #[.pointer (some ⟨bd, 0, none⟩), .int .i64 n, .int .i64 k] (one0 w) fun e w' => e = .returned (rfltV f0 f1) ∧ Below (one0 w).heap.size (one0 w) w') :
    Calls Tryz.prog 79 #[.pointer (some ⟨bd, 0, none⟩), .int .i64 n, .int .i64 k] w fun e w' => e = .returned (.tuple #[.int .i64 0, rfltV f0 f1]) ∧ Below w.heap.size w w' := by
  have CF := hid hT
  have h1b : (f1 == 0) = false := by simpa using h1
  have HTB := hid (one0_below w)
  clear hT h1
  go_enter Tryz.func79, Tryz.ntmps79
  go_wp2_with (first
    | (go_at_call 123; refine CF.out.mono ?_; rintro e w1 ⟨rfl, hb1⟩
       have hq2 : w1.heap[w.heap.size]? = some (.cells #[.int .i64 0, .int .i64 0] 32 (0, 0)) := by
         rw [hb1.block _ (by simp)]
         exact heap_alloc_new w _
       have hs1 : w.heap.size + 1 ≤ w1.heap.size := by have := hb1.size; simpa using this
       have HB1 := hid (HTB.out.trans (hb1.mono HTB.out.size))
       have HQ2 := hid hq2
       clear hb1 hq2)
    | (go_at_call 124; refine (fine_any f0 f1 _).mono ?_; rintro e w2 ⟨rfl, hb2⟩
       have hf2 : w2.heap[w1.heap.size]? = some (.cells #[.int .i64 f0, .int .i64 f1] 32 (0, 0)) := (hb2.block _ (by simp)).trans (heap_alloc_new w1 _)
       have hz2 : w2.heap[w.heap.size]? = some (.cells #[.int .i64 0, .int .i64 0] 32 (0, 0)) :=
         (hb2.block _ (by simp; omega)).trans ((((Below.refl _ w1).alloc (Nat.le_refl _) _).block _ (by omega)).trans HQ2.out)
       have cf0 : w2.cell? ⟨w1.heap.size, 0, none⟩ = some (.int .i64 f0) := cell_of_heap hf2 0
       have cf1 : w2.cell? ⟨w1.heap.size, 1, none⟩ = some (.int .i64 f1) := cell_of_heap hf2 1
       have cz0 : w2.cell? ⟨w.heap.size, 0, none⟩ = some (.int .i64 0) := cell_of_heap hz2 0
       have cz1 : w2.cell? ⟨w.heap.size, 1, none⟩ = some (.int .i64 0) := cell_of_heap hz2 1
       have fz0 := frozen_of_heap hz2 0
       have fz1 := frozen_of_heap hz2 1
       have HB2 := hid ((HB1.out.alloc HB1.out.size _).trans (hb2.mono (Nat.le_trans HB1.out.size (by simp))))
       have hs2 : w.heap.size + 1 ≤ w2.heap.size := by have := hb2.size; simp at this; omega
       clear hb2 hf2
       skip
       rw [h1b]))
  go_region
  all_goals
    go_wp2
    refine bodyPost_ret (v := .tuple #[.int .i64 0, rfltV f0 f1]) (by simp [results, Tryz.results79, go_sem, *]) rfl ?_
    exact ⟨rfl, ((HB2.out.setCell (p := ⟨w.heap.size, 0, none⟩) (Nat.le_refl _) _).setCell (p := ⟨w.heap.size, 1, none⟩) (Nat.le_refl _) _).drew⟩

set_option maxRecDepth 20000 in
set_option maxHeartbeats 1000000 in
theorem rsplit_full (hD : RDocAt w F bd bn cap rn rv s rs) (n k : Nat) (x : Nd) (hx : s[n]? = some x) (ht : x.t = true) (hk : k ≤ x.cs.length) (h40 : 40 ≤ s.length) :
    Calls Tryz.prog 79 #[.pointer (some ⟨bd, 0, none⟩), .int .i64 n, .int .i64 k] w fun e w' => e = .returned (.tuple #[.int .i64 0, rfltV n 7]) ∧ Below w.heap.size w w' := by
  have CF := hid (textFits_ok (hD.below (one0_below w)) n k x hx ht hk)
  have h1b : ((0 : Int) == 0) = true := rfl
  have h40b : decide ((40 : Int) ≤ (s.length : Int)) = true := decide_eq_true (by omega)
  have h0 := hD.nodesCell
  have hlt := hD.lt
  have HTB := hid (one0_below w)
  clear hD hx ht hk
  go_enter Tryz.func79, Tryz.ntmps79
  go_wp2_with (first
    | (go_at_call 123; refine CF.out.mono ?_; rintro e w1 ⟨rfl, hb1⟩
       have hq2 : w1.heap[w.heap.size]? = some (.cells #[.int .i64 0, .int .i64 0] 32 (0, 0)) := by
         rw [hb1.block _ (by simp)]
         exact heap_alloc_new w _
       have hs1 : w.heap.size + 1 ≤ w1.heap.size := by have := hb1.size; simpa using this
       have HB1 := hid (HTB.out.trans (hb1.mono HTB.out.size))
       have HQ2 := hid hq2
       clear hb1 hq2)
    | (go_at_call 124; refine (fine_any 0 0 _).mono ?_; rintro e w2 ⟨rfl, hb2⟩
       have hf2 : w2.heap[w1.heap.size]? = some (.cells #[.int .i64 0, .int .i64 0] 32 (0, 0)) := (hb2.block _ (by simp)).trans (heap_alloc_new w1 _)
       have hz2 : w2.heap[w.heap.size]? = some (.cells #[.int .i64 0, .int .i64 0] 32 (0, 0)) :=
         (hb2.block _ (by simp; omega)).trans ((((Below.refl _ w1).alloc (Nat.le_refl _) _).block _ (by omega)).trans HQ2.out)
       have cf0 : w2.cell? ⟨w1.heap.size, 0, none⟩ = some (.int .i64 0) := cell_of_heap hf2 0
       have cf1 : w2.cell? ⟨w1.heap.size, 1, none⟩ = some (.int .i64 0) := cell_of_heap hf2 1
       have cz0 : w2.cell? ⟨w.heap.size, 0, none⟩ = some (.int .i64 0) := cell_of_heap hz2 0
       have cz1 : w2.cell? ⟨w.heap.size, 1, none⟩ = some (.int .i64 0) := cell_of_heap hz2 1
       have fz0 := frozen_of_heap hz2 0
       have fz1 := frozen_of_heap hz2 1
       have HB2 := hid ((HB1.out.alloc HB1.out.size _).trans (hb2.mono (Nat.le_trans HB1.out.size (by simp))))
       have hs2 : w.heap.size + 1 ≤ w2.heap.size := by have := hb2.size; simp at this; omega
       clear hb2 hf2
       have HZ := hid hz2
       have d0 := (HB2.out.cell (p := ⟨bd, 0, none⟩) hlt.1).trans h0
       clear hz2
       rw [h1b])
    | (go_at_call 48; refine (no_any _ _ _).mono ?_; rintro e w5 ⟨rfl, hw5⟩
       have hz5 : w5.heap[w.heap.size]? = some (.cells #[.int .i64 0, .int .i64 0] 32 (0, 0)) := by rw [hw5]; exact (Below.heap_alloc _ _ _ (heap_lt HZ.out)).trans HZ.out
       have cz5 : w5.cell? ⟨w.heap.size, 0, none⟩ = some (.int .i64 0) := cell_of_heap hz5 0
       have cz6 : w5.cell? ⟨w.heap.size, 1, none⟩ = some (.int .i64 0) := cell_of_heap hz5 1
       have fz5 := frozen_of_heap hz5 0
       have fz6 := frozen_of_heap hz5 1
       have hs5 := heap_lt hz5
       have HB5 : Hid (Below w.heap.size w w5) := by rw [hw5]; exact HB2.out.alloc HB2.out.size _
       clear hz5 hw5))
  refine bodyPost_ret (v := .tuple #[.int .i64 0, rfltV n 7]) (by simp [results, Tryz.results79, go_sem, cz5, cz6, fz5, fz6, hs5]) rfl ?_
  exact ⟨rfl, (HB5.out.setCell (p := ⟨w.heap.size, 0, none⟩) (Nat.le_refl _) _).setCell (p := ⟨w.heap.size, 1, none⟩) (Nat.le_refl _) _⟩
end
end Go.Proofs.YtabogkonklplcaaGreatDoor

/- marginref's Split, done. -/
namespace Go.Proofs.YtabogkonklplcaaGreatDoor
open Go.RowKit
set_option linter.unusedSimpArgs false
set_option linter.unusedVariables false

/-- A row from one of its places on: nil, or cells. -/
theorem slice_tail {w0 : World} {t e : TypeId} {n : Nat} {v : Value} {xs : List Value} (ht : Tryz.prog.underlying t = some (.slice e)) (he : Tryz.prog.elem t = e) (hs : ∀ w, (sizeOf e).run Tryz.prog w = .ok 1 w) (hr : w0.ownsRow 0 e 1 v n xs) (h1 : ∀ u ∈ xs, u.oneCell' = true) (k : Nat) (hk : k ≤ n) (hnil : ∀ w, (Instr.slice t (.slice none 0 0) (some (.int .i64 0)) none none).run Tryz.prog w = .ok (.slice none 0 0) w) :
    ∃ a c, (∀ w, (Instr.slice t v (some (.int .i64 (k : Int))) none none).run Tryz.prog w = .ok (.slice a (n - k) c) w) ∧ ∀ w : World, w.ownsRow 0 e 1 v n xs → SrcOk w 1 (.slice a (n - k) c) (n - k) (xs.drop k) := by
  rcases row_cases hr with ⟨hv, h0⟩ | ⟨g, cc, hgv⟩
  · subst h0
    have hk0 : k = 0 := by omega
    subst hk0 hv
    have hx : xs = [] := List.length_eq_zero_iff.1 (by have := hr.1; omega)
    subst hx
    exact ⟨none, 0, hnil, fun w _ => .inl ⟨rfl, rfl, rfl⟩⟩
  · subst hgv
    obtain ⟨ad, hsl, hsrc⟩ := slice_from ht he hs hr k hk
    refine ⟨some ad, cc - k, hsl, fun w h => ?_⟩
    have hl := hr.1
    unfold SrcOk
    exact Or.inr ⟨ad, cc - k, rfl, by simp; omega, hsrc w h, fun u hu => h1 u (List.mem_of_mem_drop hu)⟩

section
variable {w : World} {F : Nat → Prop} {bd bn cap : Nat} {rn : List RN} {rv : Value} {s : List Nd} {rs : List Sp}

set_option maxRecDepth 20000 in
set_option maxHeartbeats 2000000 in
theorem rsplit_top (hD : RDocAt w F bd bn cap rn rv s []) (n k : Nat) (x : Nd) (hx : s[n]? = some x) (ht : x.t = true) (hlen : x.cs.length ≤ 30) (hk : k ≤ x.cs.length) (h40 : s.length < 40) (hp : x.p < 0) :
    Calls Tryz.prog 79 #[.pointer (some ⟨bd, 0, none⟩), .int .i64 n, .int .i64 k] w fun e w' => e = .returned (.tuple #[.int .i64 s.length, rfltV 0 0]) ∧ Keeps F w w' ∧
      RDoc w' (fun b => F b ∨ w.heap.size ≤ b) bd ((s ++ [(⟨true, x.cs.drop k, [], x.p⟩ : Nd)]).set n { x with cs := x.cs.take k }) [] := by
  obtain ⟨i0, hi, hz0, hz1, hz2⟩ := info_parts Tryz.info9
  obtain ⟨j0, hj, jz0, jz1, jz2⟩ := info_parts Tryz.info119
  have hn : n < s.length := (List.getElem?_eq_some_iff.1 hx).1
  have CF := hid (textFits_ok (hD.below (one0_below w)) n k x hx ht hk)
  have h1b : ((0 : Int) == 0) = true := rfl
  have h40b : decide ((40 : Int) ≤ (s.length : Int)) = false := decide_eq_false (by omega)
  have h0 := hD.nodesCell
  have hlt := hD.lt
  have hlenE := hD.len
  have hpd : decide (0 ≤ x.p) = false := decide_eq_false (by omega)
  have hpd' : ¬ (0 : Int) ≤ x.p := by omega
  obtain ⟨r, hr, ho, -, hc1, -, hc3⟩ := hD.look hx
  obtain ⟨ta, tc, hsl, hsrc⟩ := slice_tail (t := 107) Tryz.underlying107 Tryz.elem107 Tryz.sizeOf9 ho.chars (strsV_one _) k hk (fun w => by kernel_rfl)
  obtain ⟨ca, cc, hcv⟩ := slice_shape ho.chars
  rw [hcv] at hc1 hsl hsrc
  have HROW := hid ho.chars
  rw [hcv] at HROW
  have HSRC := hid hsrc
  have HTB := hid (one0_below w)
  have HD := hid hD
  have HX := hid hx
  clear hD hr ho hcv hx ht hsrc
  go_enter Tryz.func79, Tryz.ntmps79
  go_wp2_with (first
    | (go_at_call 123; refine CF.out.mono ?_; rintro e w1 ⟨rfl, hb1⟩
       have hq2 : w1.heap[w.heap.size]? = some (.cells #[.int .i64 0, .int .i64 0] 32 (0, 0)) := by
         rw [hb1.block _ (by simp)]
         exact heap_alloc_new w _
       have hs1 : w.heap.size + 1 ≤ w1.heap.size := by have := hb1.size; simpa using this
       have HB1 := hid (HTB.out.trans (hb1.mono HTB.out.size))
       have HQ2 := hid hq2
       clear hb1 hq2)
    | (go_at_call 124; refine (fine_any 0 0 _).mono ?_; rintro e w2 ⟨rfl, hb2⟩
       have hf2 : w2.heap[w1.heap.size]? = some (.cells #[.int .i64 0, .int .i64 0] 32 (0, 0)) := (hb2.block _ (by simp)).trans (heap_alloc_new w1 _)
       have hz2 : w2.heap[w.heap.size]? = some (.cells #[.int .i64 0, .int .i64 0] 32 (0, 0)) :=
         (hb2.block _ (by simp; omega)).trans ((((Below.refl _ w1).alloc (Nat.le_refl _) _).block _ (by omega)).trans HQ2.out)
       have cf0 : w2.cell? ⟨w1.heap.size, 0, none⟩ = some (.int .i64 0) := cell_of_heap hf2 0
       have cf1 : w2.cell? ⟨w1.heap.size, 1, none⟩ = some (.int .i64 0) := cell_of_heap hf2 1
       have cz0 : w2.cell? ⟨w.heap.size, 0, none⟩ = some (.int .i64 0) := cell_of_heap hz2 0
       have cz1 : w2.cell? ⟨w.heap.size, 1, none⟩ = some (.int .i64 0) := cell_of_heap hz2 1
       have fz0 := frozen_of_heap hz2 0
       have fz1 := frozen_of_heap hz2 1
       have HB2 := hid ((HB1.out.alloc HB1.out.size _).trans (hb2.mono (Nat.le_trans HB1.out.size (by simp))))
       have hs2 : w.heap.size + 1 ≤ w2.heap.size := by have := hb2.size; simp at this; omega
       clear hb2
       have HZ := hid hz2
       have d0 := (HB2.out.cell (p := ⟨bd, 0, none⟩) hlt.1).trans h0
       have d1 := (HB2.out.cell (p := ⟨bn, n * 4 + 1, none⟩) hlt.2).trans hc1
       have d3 := (HB2.out.cell (p := ⟨bn, n * 4 + 3, none⟩) hlt.2).trans hc3
       have S2 := hid (HSRC.out w2 ((Keeps.of_below (F := fun _ => False) HB2.out).row HROW.out (fun _ _ e => e)))
       have HF := hid (And.intro hf2 hf2)
       clear hz2
       rw [h1b])
    | (at_builtin; refine wpList_append_any _ rfl (.tmp 32) (.tmp 42) 107 rfl w2.heap.size 9 i0 (.string ByteArray.empty) 1 16 Tryz.underlying107 hi hz0 hz1 hz2 rfl (by decide) (.slice none 0 0) 0 [] rfl (World.ownsRow_nil _ _ _ _) _ _ _ rfl S2.out (by unfold maxLen; omega) (by omega) (Nat.le_refl _) ?_
       intro v1 w3 ho1 hb1
       obtain ⟨va, vc, hv1⟩ := slice_shape ho1
       subst hv1
       have hh := HB2.out.trans (hb1.mono HB2.out.size)
       have hz := hh.size
       have d0' := (hh.cell (p := ⟨bd, 0, none⟩) hlt.1).trans h0
       have d3' := (hh.cell (p := ⟨bn, n * 4 + 3, none⟩) hlt.2).trans hc3
       have HO1 := hid ho1
       have HB3 := hid hh
       have hz3 : w3.heap[w.heap.size]? = some (.cells #[.int .i64 0, .int .i64 0] 32 (0, 0)) := (hb1.block _ (heap_lt HZ.out)).trans HZ.out
       have HZ3 := hid hz3
       have HW3 := hid (And.intro hz (heap_lt hz3))
       go_must (have HD2 : Hid (RDocAt (w3.alloc (.cells #[.bool true, .slice va (0 + (x.cs.length - k)) vc, .slice none 0 0, .int .i64 x.p] 119)) (fun b => F b ∧ b < w.heap.size) bd bn cap rn rv s []) :=
         HD.out.narrow.below (hh.alloc hh.size _))
       clear ho1 hb1 hh hz3)
    | (at_builtin
       refine wpList_append_lies _ rfl (.tmp 61) (.tmp 65) 120 rfl 0 119 j0 _ 4 64 Tryz.underlying120 hj jz0 jz1 jz2 rfl (by decide) (.slice (some ⟨bn, 0, none⟩) s.length cap) s.length _ rfl (by have := HD2.out.nodes; rw [hlenE] at this; simp only [Nat.zero_add] at this; exact this) ⟨w3.heap.size, 0, none⟩ 1 1 [.bool true, .slice va (x.cs.length - k) vc, .slice none 0 0, .int .i64 x.p] rfl rfl (World.news_of_block (heap_alloc_new w3 _)) (by simp [Value.oneCell']) (by decide) (by unfold maxLen; omega) (by omega) (Nat.zero_le _) (w3.heap.size + 1) (by simp) ?_
       intro g cap' w4 ho (hg : World.grownBy _ w4 (some bn)) (hgn : some bn = some g ∨ _) _
       have z0 := HW3.out.1
       have z1 := HW3.out.2
       have hD2 := HD2.out
       simp only [Nat.zero_add] at hD2
       have hd1 := (hg.block bd (by simp only [World.size_alloc]; omega) (by simpa using hD2.ne)).trans hD2.doc
       have hcD : w4.cell? ⟨bd, 0, none⟩ = some (.slice (some ⟨bn, 0, none⟩) rn.length cap) := cell_of_heap hd1 0
       have hfD := frozen_of_heap hd1 0
       have hq1 := (hg.block w.heap.size (by simp only [World.size_alloc]; omega) (by simp; omega)).trans ((Below.heap_alloc _ _ _ z1).trans HZ3.out)
       have hcr := HO1.out
       simp only [Nat.zero_add, List.nil_append] at hcr
       have hcb : ∀ b, (Value.slice va (x.cs.length - k) vc).ownBlock = some b → w2.heap.size ≤ b := fun b e => (hcr.lt b e).1
       have hcs : (x.cs.drop k).length = x.cs.length - k := by simp
       have hcv : (strsV x.cs).drop k = strsV (x.cs.drop k) := by simp [strsV]
       have hp5 := hD2.pushed (B := w.heap.size + 1) (x := ⟨true, x.cs.drop k, [], x.p⟩) (r := ⟨true, .slice va (x.cs.length - k) vc, .slice none 0 0, x.p⟩) (by simp only [World.size_alloc]; omega) hg (by rw [hlenE]; exact ho) (by rcases hgn with e | e; exact .inl (by cases e; rfl); exact .inr (by simpa using e))
         ⟨rfl, rfl, by rw [hcs, ← hcv]; exact ownsRow_zero (hcr.alloc _), World.ownsRow_nil _ _ _ _, fun b e => ⟨.inr (by have := hcb b e; omega), by have := hcb b e; omega, by have := hcb b e; omega, fun e2 => by have := hcb b e; have := (HD.out.ranges.lt b e2).2; omega⟩, fun b e => (by cases e)⟩
       rw [hlenE] at hp5 hcD
       have hk0 : Keeps F w w4 := ((Keeps.of_below (F := F) HB3.out).alloc _).trans (Keeps.grown hg (fun k e => by cases e; exact .inl (.inl HD.out.Fn)))
       have hq5 : (w4.setCell ⟨bd, 0, none⟩ (.slice (some ⟨g, 0, none⟩) (s.length + 1) cap')).heap[w.heap.size]? = some (.cells #[.int .i64 0, .int .i64 0] 32 (0, 0)) := by
         rw [Below.heap_setCell _ _ _ _ (by simp; omega)]; exact hq1
       have HP5 := hid hp5
       have HK0 := hid hk0
       have HQ5 := hid hq5
       have CR := hid (replace_any hp5 n k (x.cs.length - k) x (by rw [List.getElem?_append_left hn]; exact HX.out) hlen (by omega) (.slice none 0 0) [] (by decide) (World.ownsRow_nil _ _ _ _))
       clear hd1 hq1 hg ho hgn hp5 hk0 hq5 hD2 hcr hcb hcs hcv)
    | (go_at_call 125
       refine CR.out.mono ?_
       rintro e w5 ⟨rfl, hk5, hr5⟩
       have hz5 := (hk5.block _ (heap_lt HQ5.out) (fun e => by rcases e with e | e; exact Nat.lt_irrefl _ e.2; omega)).trans HQ5.out
       have cz5 : w5.cell? ⟨w.heap.size, 0, none⟩ = some (.int .i64 0) := cell_of_heap hz5 0
       have cz6 : w5.cell? ⟨w.heap.size, 1, none⟩ = some (.int .i64 0) := cell_of_heap hz5 1
       have fz5 := frozen_of_heap hz5 0
       have fz6 := frozen_of_heap hz5 1
       have hs5 := heap_lt hz5
       have HK5 := hid hk5
       have HR5 := hid hr5
       clear hk5 hr5 hz5))
  refine bodyPost_ret (v := .tuple #[.int .i64 s.length, rfltV 0 0]) (by simp [results, Tryz.results79, go_sem, cz5, cz6, fz5, fz6, hs5]) rfl ?_
  have hk6 : Keeps F w w5 := (HK0.out.setCell (p := ⟨bd, 0, none⟩) (.inl HD.out.Fd) _).trans (HK5.out.mono (fun b _ e => by rcases e with e | e; exact .inl e.1; exact .inr (by omega)))
  have hk7 : Keeps (fun b => b = w.heap.size) w5 ((w5.setCell ⟨w.heap.size, 0, none⟩ (.int .i64 0)).setCell ⟨w.heap.size, 1, none⟩ (.int .i64 0)) := ((Keeps.refl (fun b => b = w.heap.size) w5).setCell (p := ⟨w.heap.size, 0, none⟩) (.inl rfl) _).setCell (p := ⟨w.heap.size, 1, none⟩) (.inl rfl) _
  obtain ⟨bn6, cap6, rn6, rv6, hD6⟩ := HR5.out.keeps hk7 (fun b e e2 => by have := heap_lt HQ5.out; rcases e with (e | e) | e <;> omega)
  refine ⟨rfl, (hk6.setCell (p := ⟨w.heap.size, 0, none⟩) (.inr (Nat.le_refl _)) _).setCell (p := ⟨w.heap.size, 1, none⟩) (.inr (Nat.le_refl _)) _, bn6, cap6, rn6, rv6, ?_⟩
  have e7 : x.cs.take k ++ [] ++ x.cs.drop (k + (x.cs.length - k)) = x.cs.take k := by rw [List.drop_of_length_le (by omega)]; simp
  rw [e7] at hD6
  refine hD6.wider (fun b e => ?_)
  rcases e with (e | e) | e
  · exact .inl e.1
  · exact .inr (by omega)
  · exact .inr (by have := heap_lt HQ5.out; omega)
end
end Go.Proofs.YtabogkonklplcaaGreatDoor
