import Derived.Test.YtabogkonklplcaaGreatDoorF12
import Derived.Test.YtabogkonklplcaaGreatDoorF11
import Derived.Maps.AppendAt
import Derived.Maps.OwnIn

/- From what the program's calls answer (Answers) to the steps of a script. -/
namespace Go.Proofs.YtabogkonklplcaaGreatDoor
open Go.RowKit
set_option linter.unusedSimpArgs false
set_option linter.unusedVariables false

/-- The program's calls of stage 1, beside the document's own. -/
structure Answers (PD : PDT) (G : World → Prop) : Prop where
  pd : PDOk PD
  gb : ∀ w w', G w → Below w.heap.size w w' → G w'
  new : NewOk PD G
  element : ∀ s, PD.ok s → ∃ n : Int, Ans PD G s 52 73 [] (fun v => .tuple #[.int .i64 n, v]) (fun v => .tuple #[.int .i64 n, v])
  text : ∀ s, PD.ok s → ∀ S : ByteArray, S.size < lots → ∃ n : Int, Ans PD G s 53 74 [.string S] (fun v => .tuple #[.int .i64 n, v]) (fun v => .tuple #[.int .i64 n, v])
  insert : ∀ s, PD.ok s → ∀ A B C : Int, Ans PD G s 54 75 [.int .i64 A, .int .i64 B, .int .i64 C] (fun v => v) (fun v => v)
  remove : ∀ s, PD.ok s → ∀ A : Int, Ans PD G s 60 76 [.int .i64 A] (fun v => v) (fun v => v)
  shown : ∀ s, PD.ok s → ∀ A : Int, ∃ b : ByteArray, Ans PD G s 55 77 [.int .i64 A] (fun v => .tuple #[.string b, v]) (fun v => .tuple #[.string b, v])

theorem steps_nodes {PD : PDT} {G : World → Prop} (hA : Answers PD G) {Q : Nat → Prop} {w0 : World} {yb : Nat} (hG : ∀ W, Keeps Q w0 W → G W) (o : OpR) (ho : OpOk o) (hk : 2 ≤ o.kind ∧ o.kind ≤ 6) (W : World) (docs : List DocR) (hI : InvE PD Q w0 W yb docs) (hdl : docs.length < lots) :
    Calls Tryz.prog 15 #[ptr yb, o.val] W (StepPost PD Q w0 yb docs.length docs.length) := by
  obtain ⟨kind, D, A, B, C, S, p0, p1, q0, q1⟩ := o
  obtain ⟨d1, d2, hs⟩ := ho
  simp only at d1 d2 hs hk
  by_cases h0 : docs.length = 0
  · exact step_none hA.pd hI kind D A B C S p0 p1 q0 q1 (by omega) (.inl h0)
  refine step_nodes hA.pd hI kind D A B C S p0 p1 q0 q1 (by omega) hk.2 (by omega) hdl d1 d2 (fun W1 own psv i d hd hI1 => ?_)
  have hp := hI1.pair hd
  have hwf := (hI1.doc i d hd).2.2
  have hg := hG _ hI1.fr
  have hc : kind = 2 ∨ kind = 3 ∨ kind = 4 ∨ kind = 5 ∨ kind = 6 := by omega
  rcases hc with rfl | rfl | rfl | rfl | rfl
  · exact nodes_element hA.pd hA.gb hp hg D A B C S p0 p1 q0 q1 (hA.element d.s hwf)
  · exact nodes_text hA.pd hA.gb hp hg D A B C S p0 p1 q0 q1 (hA.text d.s hwf S hs)
  · exact nodes_insert hA.pd hA.gb hp hg D A B C S p0 p1 q0 q1 (hA.insert d.s hwf A B C)
  · exact nodes_remove hA.pd hA.gb hp hg D A B C S p0 p1 q0 q1 (hA.remove d.s hwf A)
  · exact nodes_show hA.pd hA.gb hp hg D A B C S p0 p1 q0 q1 (hA.shown d.s hwf A)

theorem steps_of {PD : PDT} {G : World → Prop} (hA : Answers PD G) {Q : Nat → Prop} {w0 : World} {yb : Nat} (hG : ∀ W, Keeps Q w0 W → G W) : Steps PD Q w0 yb (fun k => 1 ≤ k ∧ k ≤ 6) := by
  intro o ho hk W docs hI hdl
  by_cases h1 : o.kind = 1
  · obtain ⟨kind, D, A, B, C, S, p0, p1, q0, q1⟩ := o
    simp only at h1
    subst h1
    refine (step_new hA.pd hI hG hA.new D A B C S p0 p1 q0 q1 hdl).mono ?_
    rintro e w' ⟨he, docs', h, hm, hl⟩
    exact ⟨he, docs', h, by omega, hl⟩
  · refine (steps_nodes hA hG o ho ⟨by omega, hk.2⟩ W docs hI hdl).mono ?_
    rintro e w' ⟨he, docs', h, hm, hl⟩
    exact ⟨he, docs', h, hm, by omega⟩

end Go.Proofs.YtabogkonklplcaaGreatDoor

/- tree.holds. -/
namespace Go.Proofs.YtabogkonklplcaaGreatDoor
open Go.RowKit Go.Shelf
set_option linter.unusedSimpArgs false
set_option linter.unusedVariables false
attribute [local go_sem] Oper.semAt_some

set_option maxRecDepth 20000 in
set_option maxHeartbeats 4000000 in
theorem holds_any {s : List Nd} (wf : WF s) {h : Nat → Nat} {B : Nat} (u : Up s h B) {F : Nat → Prop} {bf bn cap : Nat} {pn : List PN} {w : World} (hD : PForAt w F bf bn cap pn s) (k n o : Nat) (hn : n < s.length) (hk : h n < k) :
    Calls Tryz.prog 173 #[ptr bf, .int .i64 n, .int .i64 o] w fun e w' => e = .returned (.bool (decide (o ∈ allF s k n))) ∧ Below w.heap.size w w' := by
  have HD := hid hD.narrow
  clear hD
  refine callsIn_wide.1 (callsIn_of_wp_marks (F := Fence.wide) (n := 1) Tryz.func173 rfl trivial ?_ rfl)
  simp only [Tryz.ntmps173, List.size_toArray, List.length_cons, List.length_nil, Nat.reduceAdd, Nat.reduceSub, Array.replicate_succ, Array.replicate_zero, List.push_toArray, List.append_toArray, List.nil_append, List.cons_append]
  have C : Hid (∀ (m : Nat) (W : World), CallsIn Fence.wide m _ _ _ _ _) := hid (fun m W => callsIn_wide.2 (all_any bf n W))
  gi_wp2_with (refine ⟨trivial, ?_⟩; gi_at_call 90; refine (C.out _ _).mono ?_; rintro e w3 ⟨rfl, rfl⟩)
  obtain ⟨wb, hwb⟩ : ∃ wb, (((w.alloc (.cells #[.int .i64 (o : Int)] 3)).alloc (.cells #[.bool false] 4)).alloc (.cells #[ptr bf] 91)).alloc (.cells #[.int .i64 (n : Int)] 3) = wb := ⟨_, rfl⟩
  have hszb : wb.heap.size = w.heap.size + 4 := by rw [← hwb]; simp
  have hbb : Below w.heap.size w wb := by rw [← hwb]; exact ((((Below.refl _ w).alloc (Nat.le_refl _) _).alloc (by simp) _).alloc (by simp; omega) _).alloc (by simp; omega) _
  have x0 : wb.heap[w.heap.size]? = some (.cells #[.int .i64 (o : Int)] 3 (0, 0)) := by
    rw [← hwb, Below.heap_alloc _ _ _ (by simp; omega), Below.heap_alloc _ _ _ (by simp; omega), Below.heap_alloc _ _ _ (by simp)]
    exact heap_alloc_new w _
  have x1 : wb.heap[w.heap.size + 1]? = some (.cells #[.bool false] 4 (0, 0)) := by
    rw [← hwb, Below.heap_alloc _ _ _ (by simp), Below.heap_alloc _ _ _ (by simp)]
    have := heap_alloc_new (w.alloc (.cells #[.int .i64 (o : Int)] 3)) (.cells #[.bool false] 4)
    rwa [World.size_alloc] at this
  have x2 : wb.heap[w.heap.size + 2]? = some (.cells #[ptr bf] 91 (0, 0)) := by
    rw [← hwb, Below.heap_alloc _ _ _ (by simp)]
    have := heap_alloc_new ((w.alloc (.cells #[.int .i64 (o : Int)] 3)).alloc (.cells #[.bool false] 4)) (.cells #[ptr bf] 91)
    rwa [World.size_alloc, World.size_alloc] at this
  have x3 : wb.heap[w.heap.size + 3]? = some (.cells #[.int .i64 (n : Int)] 3 (0, 0)) := by
    rw [← hwb]
    have := heap_alloc_new (((w.alloc (.cells #[.int .i64 (o : Int)] 3)).alloc (.cells #[.bool false] 4)).alloc (.cells #[ptr bf] 91)) (.cells #[.int .i64 (n : Int)] 3)
    rwa [World.size_alloc, World.size_alloc, World.size_alloc] at this
  rw [hwb]
  refine range_mine (gf := 138) (lb := #[ptr (w.heap.size + 3), ptr (w.heap.size + 2)]) rfl (enters_of Tryz.func138 (by kernel_rfl) rfl) rfl (O := fun b => b = w.heap.size + 1) (fun b e => by omega)
    (all1_ok wf u k n hn hk wb _ _ _ (HD.out.below hbb) (fun b hb => ⟨by have := hb.2; omega, by have := hb.2; omega⟩) (cell_of_heap x3 0) (cell_of_heap x2 0) (by omega) (by omega))
    (fun pre O3 W => O3 = (fun b => b = w.heap.size + 1) ∧ o ∉ pre ∧ W.heap[w.heap.size + 1]? = some (.cells #[.bool false] 4 (0, 0)) ∧ Stp (fun b => b = w.heap.size + 1) O3 wb W)
    (fun pre O3 W => O3 = (fun b => b = w.heap.size + 1) ∧ o ∈ pre ∧ W.heap[w.heap.size + 1]? = some (.cells #[.bool true] 4 (0, 0)) ∧ Stp (fun b => b = w.heap.size + 1) O3 wb W) ?mI ?mIx ?h0
    (fun y => Act.mk #[ptr bf, Value.int IntKind.i64 n, Value.int IntKind.i64 o, undef, undef,
          Value.pointer (some { block := w.heap.size, off := 0 }),
          Value.pointer (some { block := w.heap.size + 1, off := 0 }), Value.int IntKind.i64 y, ptr bf, Value.int IntKind.i64 n,
          Value.func (Fn.func 138) #[] #[ptr (w.heap.size + 1 + 1 + 1), ptr (w.heap.size + 1 + 1)], Value.int IntKind.i64 y, undef, undef,
          undef] []) ?assign ?body ?done ?stop
  case mI =>
    rintro pre O3 X Y ⟨rfl, h1, h2, h3⟩ hk
    exact ⟨rfl, h1, by rw [hk.block _ (heap_lt h2) (fun e => e.1 rfl)]; exact h2, stp_mine (Nat.le_refl _) h3 hk⟩
  case mIx =>
    rintro pre O3 X Y ⟨rfl, h1, h2, h3⟩ hk
    exact ⟨rfl, h1, by rw [hk.block _ (heap_lt h2) (fun e => e.1 rfl)]; exact h2, stp_mine (Nat.le_refl _) h3 hk⟩
  case h0 => exact ⟨rfl, by simp, x1, Stp.refl (fun b e => by omega)⟩
  case assign =>
    intro m l' y W K hK
    dsimp only [encN]
    gi_wp2
    exact hK
  case body =>
    rintro m l' pre y O3 W hpre hO3 ⟨rfl, h1, h2, h3⟩
    have f0 : W.cell? ⟨w.heap.size, 0, none⟩ = some (.int .i64 (o : Int)) := h3.keeps.cell (cell_of_heap x0 0) (by simp)
    have f1 : W.cell? ⟨w.heap.size + 1, 0, none⟩ = some (.bool false) := cell_of_heap h2 0
    have f2 := frozen_of_heap h2 0
    have H3 := hid h3
    have H2 := hid h2
    have H1 := hid h1
    clear h3 h2 h1 x0 x1 x2 x3 hpre
    by_cases hyo : y = o
    · subst hyo
      gi_wp2
      have hs : Stp (fun b => b = w.heap.size + 1) (fun b => b = w.heap.size + 1) W (W.setCell ⟨w.heap.size + 1, 0, none⟩ (.bool true)) :=
        ⟨(Keeps.refl (fun b => b = w.heap.size + 1) W).setCell (p := ⟨w.heap.size + 1, 0, none⟩) (.inl rfl) _, fun b e => .inl e, fun b e => by have := hO3 b e; simpa [World.setCell] using this⟩
      exact ⟨_, hs, rfl, by simp, by rw [heap_setCell_same W _ 0 _ _ _ H2.out]; rfl, H3.out.trans hs⟩
    · have hyI : ((y : Int) == (o : Int)) = false := by simp; omega
      have hyJ : ¬ (y : Int) = (o : Int) := by omega
      gi_wp2
      exact ⟨_, Stp.refl hO3, rfl, by simp [H1.out]; omega, H2.out, H3.out⟩
  case done =>
    rintro O5 W st5 hn5 ⟨rfl, h1, h2, h3⟩ hD5
    have f1 : W.cell? ⟨w.heap.size + 1, 0, none⟩ = some (.bool false) := cell_of_heap h2 0
    have f2 := frozen_of_heap h2 0
    have H5 := hid (And.intro st5 (And.intro h1 (And.intro h2 hD5)))
    clear st5 hn5 h1 h2 h3 hD5 x0 x1 x2 x3
    gi_wp2
    obtain ⟨st5, h1, h2, hD5⟩ := H5.out
    refine leaves_marks [wb.heap.size] _ (by simp) (fun D hm => ?_) (fun w' hk' => ⟨.bool false, ?_, ?_, ?_⟩)
    · obtain rfl : D = wb.heap.size := by simpa using hm
      rw [Below.heap_setCell _ _ _ _ (by simp; omega)]
      exact hD5
    · have hh := heap_setCell_same W _ 0 _ _ (.bool false) h2
      have hc : w'.cell? ⟨w.heap.size + 1, 0, none⟩ = some (.bool false) := hk'.cell (cell_of_heap hh 0) (by simp; omega)
      simp [results, Tryz.f173, go_sem, hc]
    · rw [decide_eq_false h1]
    · have k1 : Keeps (fun _ => False) w wb := Keeps.of_below hbb
      have k2 : Keeps (fun _ => False) w W := k1.trans (st5.keeps.mono (fun b _ e => .inr (by omega)))
      exact ((k2.setCell (p := ⟨w.heap.size + 1, 0, none⟩) (.inr (by simp)) _).trans (hk'.mono (fun b _ e => .inr (by simp at e; omega)))).below
  case stop =>
    rintro O5 pre W hpre st5 hn5 ⟨rfl, h1, h2, h3⟩ hD5
    have H5 := hid (And.intro st5 (And.intro h1 (And.intro h2 (And.intro hD5 hpre))))
    clear st5 hn5 h1 h2 h3 hD5 x0 x1 x2 x3 hpre
    gi_wp2
    obtain ⟨st5, h1, h2, hD5, hpre⟩ := H5.out
    refine leaves_marks [wb.heap.size] _ (by simp) (fun D hm => ?_) (fun w' hk' => ⟨.bool true, ?_, ?_, ?_⟩)
    · obtain rfl : D = wb.heap.size := by simpa using hm
      exact hD5
    · have hc : w'.cell? ⟨w.heap.size + 1, 0, none⟩ = some (.bool true) := hk'.cell (cell_of_heap h2 0) (by simp; omega)
      simp [results, Tryz.f173, go_sem, hc]
    · rw [decide_eq_true (hpre.subset h1)]
    · have k1 : Keeps (fun _ => False) w wb := Keeps.of_below hbb
      have k2 : Keeps (fun _ => False) w W := k1.trans (st5.keeps.mono (fun b _ e => .inr (by omega)))
      exact (k2.trans (hk'.mono (fun b _ e => .inr (by simp at e; omega)))).below

end Go.Proofs.YtabogkonklplcaaGreatDoor

/- slices.Values' function; slices.AppendSeq, slices.Collect over a function that gives so many numbers. -/
namespace Go.Proofs.YtabogkonklplcaaGreatDoor
open Go.RowKit Go.Shelf
set_option linter.unusedSimpArgs false
set_option linter.unusedVariables false
attribute [local go_sem] Oper.semAt_some

set_option maxHeartbeats 400000 in
theorem values_any (a : Option Addr) (n c : Nat) (w : World) : Calls Tryz.prog 88 #[.slice a n c] w fun e w' =>
    e = .returned (.func (.func 136) #[] #[ptr w.heap.size]) ∧ w' = w.alloc (.cells #[.slice a n c] 24) := by
  go_enter Tryz.func88, Tryz.ntmps88
  go_wp2
  go_ret
  exact ⟨rfl, rfl⟩

set_option maxRecDepth 20000 in
set_option maxHeartbeats 2000000 in
theorem values1_ok {ks : List Nat} {v : Value} {w : World} {O : Nat → Prop} {b : Nat} (hb : w.heap[b]? = some (.cells #[v] 24 (0, 0))) (hrow : w.ownsRow 0 3 1 v ks.length (intsV ks)) (ob : ¬ O b) (og : ∀ g, v.ownBlock = some g → ¬ O g) (hlen : ks.length < lots) :
    SeqOk Tryz.prog 136 #[ptr b] ks w O := by
  intro l J Jx O1 w1 hbw hO1 hlt mJ mJx hY hJ0
  have hlb := heap_lt hb
  have p1 : ¬ O1 b := fun e => (hO1 _ e).elim ob (fun e => by omega)
  have pg : ∀ g, v.ownBlock = some g → ¬ O1 g := fun g hg e => (hO1 _ e).elim (og g hg) (fun e => by have := (hrow.lt g hg).2; omega)
  have hb1 : w1.heap[b]? = some (.cells #[v] 24 (0, 0)) := (hbw.block b hlb).trans hb
  have hrow1 : w1.ownsRow 0 3 1 v ks.length (intsV ks) := (Keeps.of_below (F := fun _ => False) hbw).row hrow (fun _ _ e => e)
  obtain ⟨sa, sc, hkv⟩ : ∃ a c, v = .slice a ks.length c := by
    rcases row_cases hrow with ⟨h1, h2⟩ | ⟨g, c, h1⟩
    · exact ⟨none, 0, by rw [h1, h2]⟩
    · exact ⟨_, _, h1⟩
  subst hkv
  have e1 : w1.cell? ⟨b, 0, none⟩ = some (.slice sa ks.length sc) := cell_of_heap hb1 0
  have hl2 : ks.length < 2000000 := by unfold lots at hlen; exact hlen
  refine callsIn_wide.1 (callsIn_of_wp (F := Fence.wide) (n := 1) Tryz.func136 rfl trivial ?_ rfl)
  simp only [Tryz.ntmps136, List.size_toArray, List.length_cons, List.length_nil, Nat.reduceAdd, Nat.reduceSub, Array.replicate_succ, Array.replicate_zero, List.push_toArray, List.append_toArray, List.nil_append, List.cons_append]
  have HR1 := hid hrow1
  clear hrow1 hrow hb hb1
  gi_wp2
  gi_loopw [7] (fun p wr => ∃ (i : Nat) (O' : Nat → Prop), i ≤ ks.length ∧ p = .int .i64 i ∧ Stp O1 O' w1 wr ∧ J (ks.take i) O' wr) (fun p _ => ks.length - (intOf p).toNat)
  case atStart => exact ⟨0, O1, Nat.zero_le _, rfl, Stp.refl hlt, by simpa using hJ0⟩
  case round =>
    obtain ⟨i, O', hi, rfl, st, hJ⟩ := hrel
    by_cases hil : i < ks.length
    · obtain ⟨c, hc⟩ : ∃ c, ks[i]? = some c := ⟨_, List.getElem?_eq_getElem hil⟩
      have hrw := st.keeps.row HR1.out pg
      rcases row_cases hrw with ⟨_, hl0⟩ | ⟨g, cc, hv⟩
      · omega
      cases hv
      have cel : wr.cell? ⟨g, i, none⟩ = some (.int .i64 (c : Int)) := by
        rw [hrw.cellAt i (by omega)]
        simp [intsV, hc]
      have htk : ks.take (i + 1) = ks.take i ++ [c] := by rw [List.take_add_one, hc]; rfl
      obtain ⟨fn, tmps, assign, body, hy, hR⟩ := hY 0 (ks.take i) c O' wr hJ (by rw [← htk]; exact List.take_prefix _ _) st.there
      have HR := hid hR
      have hilI : (i : Int) < ks.length := by omega
      have ST := hid st
      have HTK := hid htk
      dsimp only [encN] at hy
      clear hR hJ hc hrw st htk
      gi_wp2_with (refine HR.out.mono ?_; clear HR; rintro e W3 ⟨O3, st3, (⟨rfl, hJ3⟩ | ⟨rfl, hX3⟩)⟩)
      · go_roundw
        case rel => exact ⟨i + 1, O3, by omega, by go_num, ST.out.trans st3, by rw [HTK.out]; exact hJ3⟩
        case measure => simp [intOf]; omega
      · refine bodyPost_ret (results_none rfl _ _ _) rfl ?_
        exact ⟨⟨_, rfl⟩, O3, ST.out.trans st3, .inr ⟨_, by rw [← HTK.out]; exact List.take_prefix _ _, hX3⟩⟩
    · obtain rfl : i = ks.length := by omega
      have hilI : ¬ (ks.length : Int) < ks.length := by omega
      have HJ := hid hJ
      have ST := hid st
      clear hJ st
      gi_wp2
      go_end0
      refine ⟨⟨_, rfl⟩, O', ST.out, .inl ?_⟩
      have := HJ.out
      rwa [List.take_of_length_le (Nat.le_refl _)] at this

theorem slice_form {w : World} {e : TypeId} {z n : Nat} {v : Value} {xs : List Value} (h : w.ownsRow 0 e z v n xs) : ∃ a c, v = .slice a n c := by
  rcases row_cases h with ⟨e1, e2⟩ | ⟨g, c, e1⟩
  · exact ⟨none, 0, by rw [e1, e2]⟩
  · exact ⟨_, _, e1⟩

theorem Tryz.infoInt : (Tryz.prog.info? 3).map (fun i => (i.zero, i.size, i.bytes)) = some (some (.int .i64 0), 1, 8) := by kernel_rfl

set_option maxRecDepth 20000 in
set_option maxHeartbeats 2000000 in
theorem appendSeq_any {gf : Nat} {lb : Array Value} (eg : ∀ args w, (callFunc gf args).run Tryz.prog w = .ok (.enter gf args) w) {xs : List Nat} (hlen : xs.length < lots) {w : World}
    (hseq : ∀ (w1 : World) (O : Nat → Prop), Below w.heap.size w w1 → (∀ k, O k → w.heap.size ≤ k) → SeqOk Tryz.prog gf lb xs w1 O) :
    Calls Tryz.prog 137 #[.slice none 0 0, .func (.func gf) #[] lb] w fun e w' => ∃ v, e = .returned v ∧ w'.ownsRow 0 3 1 v xs.length (intsV xs) ∧ Below w.heap.size w w' ∧ (∀ b, v.ownBlock = some b → w.heap.size ≤ b) := by
  obtain ⟨i0, hi, hz0, hz1, hz2⟩ := info_parts Tryz.infoInt
  refine callsIn_wide.1 (callsIn_of_wp_marks (F := Fence.wide) (n := 1) Tryz.func137 rfl trivial ?_ rfl)
  simp only [Tryz.ntmps137, List.size_toArray, List.length_cons, List.length_nil, Nat.reduceAdd, Nat.reduceSub, Array.replicate_succ, Array.replicate_zero, List.push_toArray, List.append_toArray, List.nil_append, List.cons_append]
  gi_wp2
  obtain ⟨wb, hwb⟩ : ∃ wb, w.alloc (.cells #[.slice none 0 0] 24) = wb := ⟨_, rfl⟩
  have hszb : wb.heap.size = w.heap.size + 1 := by rw [← hwb]; simp
  have hbb : Below w.heap.size w wb := by rw [← hwb]; exact (Below.refl _ w).alloc (Nat.le_refl _) _
  have x0 : wb.heap[w.heap.size]? = some (.cells #[.slice none 0 0] 24 (0, 0)) := by rw [← hwb]; exact heap_alloc_new w _
  have hl2 : xs.length < 2000000 := by unfold lots at hlen; exact hlen
  rw [hwb]
  refine range_mine (gf := gf) (lb := lb) rfl eg rfl (O := fun b => b = w.heap.size) (fun b e => by omega) (hseq wb _ hbb (fun k e => by omega))
    (fun pre O3 W => ∃ v, O3 = (fun b => b = w.heap.size ∨ v.ownBlock = some b) ∧ W.heap[w.heap.size]? = some (.cells #[v] 24 (0, 0)) ∧ W.ownsRow 0 3 1 v pre.length (intsV pre) ∧ v.ownBlock ≠ some w.heap.size ∧ Stp (fun b => b = w.heap.size) O3 wb W)
    (fun _ _ _ => False) ?mI ?mIx ?h0
    (fun y => Act.mk #[Value.slice none 0 0, Value.func (Fn.func gf) #[] lb, Value.pointer (some { block := w.heap.size, off := 0 }),
          undef, Value.slice none 0 0, Value.int IntKind.i64 y, Value.func (Fn.func gf) #[] lb, Value.int IntKind.i64 y, undef, undef, undef, undef, undef] []) ?assign ?body ?done ?stop
  case mI =>
    rintro pre O3 X Y ⟨v, rfl, h2, h3, h4, h5⟩ hk
    exact ⟨v, rfl, by rw [hk.block _ (heap_lt h2) (fun e => e.1 (.inl rfl))]; exact h2, hk.row h3 (fun b e e2 => e2.1 (.inr e)), h4, stp_mine (Nat.le_refl _) h5 hk⟩
  case mIx => intro pre O3 X Y h _; exact h
  case h0 =>
    refine ⟨.slice none 0 0, ?_, x0, World.ownsRow_nil _ _ _ _, by simp [Value.ownBlock], ?_⟩
    · funext b; simp [Value.ownBlock]
    · exact Stp.refl (fun b e => by omega)
  case assign =>
    intro m l' y W K hK
    dsimp only [encN]
    gi_wp2
    exact hK
  case body =>
    rintro m l' pre y O3 W hpre hO3 ⟨v, rfl, h2, h3, h4, h5⟩
    have hpl : pre.length + 1 ≤ xs.length := by have := hpre.length_le; simpa using this
    have f1 : W.cell? ⟨w.heap.size, 0, none⟩ = some v := cell_of_heap h2 0
    have hlW : w.heap.size < W.heap.size := heap_lt h2
    have H2 := hid h2
    have H3 := hid h3
    have H4 := hid h4
    have H5 := hid h5
    have HO := hid hO3
    clear h2 h3 h4 h5 hO3 hpre x0
    gi_wp2_with (gi_at_builtin; refine wpListIn_append_own_at _ rfl _ _ 24 rfl 0 3 i0 (.int .i64 0) 1 8 Tryz.underlying24 hi hz0 hz1 hz2 rfl (by decide) v _ _ rfl (H3.out.alloc _) ⟨W.heap.size, 0, none⟩ 1 1 [.int .i64 (y : Int)] rfl rfl (cell_one_new _ _ _) (by simp [Value.oneCell']) (by unfold maxLen; omega) (by omega) (Nat.zero_le _) ?_
                 intro v' w1 hown' hgrow _ hob
                 obtain ⟨g', cap', rfl⟩ := ownsRow_succ hown'
                 have hq1 := (hgrow.block w.heap.size (by simp only [World.size_alloc]; omega) (fun e => H4.out e.symm)).trans ((Below.heap_alloc _ _ _ hlW).trans H2.out)
                 have hc1 : w1.cell? ⟨w.heap.size, 0, none⟩ = some v := cell_of_heap hq1 0
                 have hf1 := frozen_of_heap hq1 0
                 have HQ := hid hq1
                 have HW := hid hown'
                 have HG := hid hgrow
                 have HB := hid hob
                 clear hown' hgrow hob hq1)
    have hgb : v.ownBlock = some g' ∨ g' = W.heap.size + 1 := by
      rcases HB.out with e | e
      · left; rw [← e]; rfl
      · right; simpa [Value.ownBlock] using e
    have hg' : g' ≠ w.heap.size := by
      rcases hgb with e | e
      · rintro rfl; exact H4.out e
      · omega
    have hs : Stp (fun b => b = w.heap.size ∨ v.ownBlock = some b) (fun b => b = w.heap.size ∨ (Value.slice (some ⟨g', 0, none⟩) (pre.length + 1) cap').ownBlock = some b) W (w1.setCell ⟨w.heap.size, 0, none⟩ (.slice (some ⟨g', 0, none⟩) (pre.length + 1) cap')) := by
      refine ⟨?_, ?_, ?_⟩
      · exact (((Keeps.refl (fun b => b = w.heap.size ∨ v.ownBlock = some b) W).alloc _).trans (Keeps.grown HG.out (fun k e => .inl (.inl (.inr e))))).setCell (p := ⟨w.heap.size, 0, none⟩) (.inl (.inl rfl)) _
      · rintro b (e | e)
        · exact .inl (.inl e)
        · have e' : g' = b := by simpa [Value.ownBlock] using e
          subst e'
          rcases hgb with e | e
          · exact .inl (.inr e)
          · exact .inr (by omega)
      · have hz : (w1.setCell ⟨w.heap.size, 0, none⟩ (.slice (some ⟨g', 0, none⟩) (pre.length + 1) cap')).heap.size = w1.heap.size := by simp
        rintro b (e | e)
        · rw [hz, e]; exact heap_lt HQ.out
        · have e' : g' = b := by simpa [Value.ownBlock] using e
          subst e'
          rw [hz]
          exact (HW.out.lt g' rfl).2
    refine ⟨_, hs, _, rfl, by rw [heap_setCell_same w1 _ 0 _ _ _ HQ.out]; rfl, ?_, by simpa [Value.ownBlock] using hg', H5.out.trans hs⟩
    rw [List.length_append]
    have := row_setCell_other HW.out (p := ⟨w.heap.size, 0, none⟩) (by simpa [Value.ownBlock] using hg') (.slice (some ⟨g', 0, none⟩) (pre.length + 1) cap')
    simpa [intsV] using this
  case done =>
    rintro O5 W st5 hn5 ⟨v, rfl, h2, h3, h4, h5⟩ hD5
    obtain ⟨sa, sc, hkv⟩ : ∃ a c, v = .slice a xs.length c := by
      rcases row_cases h3 with ⟨e1, e2⟩ | ⟨g, c, e1⟩
      · exact ⟨none, 0, by rw [e1, e2]⟩
      · exact ⟨_, _, e1⟩
    subst hkv
    have f1 : W.cell? ⟨w.heap.size, 0, none⟩ = some (.slice sa xs.length sc) := cell_of_heap h2 0
    have H := hid (And.intro st5 (And.intro hn5 (And.intro h3 (And.intro h4 hD5))))
    have HZ := hid hszb
    clear st5 hn5 h2 h3 h4 h5 hD5 x0 hszb
    gi_wp2
    obtain ⟨st5, hn5, h3, h4, hD5⟩ := H.out
    have hszb := HZ.out
    refine leaves_marks [wb.heap.size] _ (by simp) (fun D hm => ?_) (fun w' hk' => ⟨.slice sa xs.length sc, ?_, _, rfl, ?_, ?_, ?_⟩)
    · obtain rfl : D = wb.heap.size := by simpa using hm
      exact hD5
    · exact results_tmp (fn := Tryz.f137) (t := 4) rfl _ _ _
    · refine hk'.row h3 (fun b e e2 => ?_)
      have : b = wb.heap.size := by simpa using e2
      subst this
      exact hn5 (.inr e)
    · have k1 : Keeps (fun _ => False) w wb := Keeps.of_below hbb
      have k2 : Keeps (fun _ => False) w W := k1.trans (st5.keeps.mono (fun b _ e => .inr (by omega)))
      exact (k2.trans (hk'.mono (fun b _ e => .inr (by simp at e; omega)))).below
    · intro b e
      rcases st5.gains b (.inr e) with e1 | e1
      · omega
      · omega
  case stop =>
    rintro O5 pre W hpre st5 hn5 h hD5
    exact h.elim

set_option maxHeartbeats 400000 in
theorem collect_any {gf : Nat} {lb : Array Value} (eg : ∀ args w, (callFunc gf args).run Tryz.prog w = .ok (.enter gf args) w) {xs : List Nat} (hlen : xs.length < lots) {w : World}
    (hseq : ∀ (w1 : World) (O : Nat → Prop), Below w.heap.size w w1 → (∀ k, O k → w.heap.size ≤ k) → SeqOk Tryz.prog gf lb xs w1 O) :
    Calls Tryz.prog 89 #[.func (.func gf) #[] lb] w fun e w' => ∃ a c, e = .returned (.slice a xs.length c) ∧ w'.ownsRow 0 3 1 (.slice a xs.length c) xs.length (intsV xs) ∧ Below w.heap.size w w' ∧ (∀ b, (Value.slice a xs.length c).ownBlock = some b → w.heap.size ≤ b) := by
  have C := hid (appendSeq_any eg hlen hseq)
  clear hseq eg
  go_enter Tryz.func89, Tryz.ntmps89
  go_wp2_with (go_at_call 137; refine C.out.mono ?_; rintro e w1 ⟨v, rfl, h1, h2, h3⟩; obtain ⟨sa, sc, rfl⟩ := slice_form h1)
  go_ret
  exact ⟨_, _, rfl, h1, h2, h3⟩

end Go.Proofs.YtabogkonklplcaaGreatDoor

/- The top of a tree: there is one, and one alone; marginref's top and ahead by it. -/
namespace Go.Proofs.YtabogkonklplcaaGreatDoor
open Go.RowKit
set_option linter.unusedSimpArgs false
set_option linter.unusedVariables false

theorem climb_neg {s : List Nd} {j n : Nat} (h : climb s j n < 0) : ∀ i, climb s (j + i) n < 0 := by
  intro i
  induction i with
  | zero => exact h
  | succ i ih =>
    show climb s (j + i + 1) n < 0
    simp [climb, ih]

theorem IsTop.one {s : List Nd} {n t t' : Nat} (h : IsTop s n t) (h' : IsTop s n t') : t = t' := by
  have key : ∀ {a b : Nat} {i j : Nat} {x : Nd}, climb s i n = (a : Int) → s[a]? = some x → x.p = -1 → climb s j n = (b : Int) → ¬ i < j := by
    intro a b i j x h1 h2 h3 h4 hlt
    have e : climb s (i + 1) n < 0 := by rw [climb_step h1]; simp [parOf, h2, h3]
    have := climb_neg e (j - (i + 1))
    rw [show i + 1 + (j - (i + 1)) = j by omega, h4] at this
    omega
  obtain ⟨⟨i, hi⟩, x, hx, hp⟩ := h
  obtain ⟨⟨j, hj⟩, y, hy, hq⟩ := h'
  have h1 := key hi hx hp hj
  have h2 := key hj hy hq hi
  obtain rfl : i = j := by omega
  rw [hi] at hj
  omega

theorem IsTop.up {s : List Nd} {n q t : Nat} {x : Nd} (hx : s[n]? = some x) (hp : x.p = (q : Int)) (h : IsTop s q t) : IsTop s n t := by
  obtain ⟨⟨m, hm⟩, r⟩ := h
  have e : climb s 1 n = (q : Int) := by
    show climb s (0 + 1) n = _
    rw [climb_step (show climb s 0 n = (n : Int) from rfl)]
    simp [parOf, hx, hp]
  exact ⟨⟨1 + m, by rw [climb_add e, hm]⟩, r⟩

theorem top_there {s : List Nd} (wf : WF s) : ∀ n, n < s.length → ∃ t, IsTop s n t := by
  obtain ⟨h, B, u⟩ := wf.up
  have key : ∀ k n, n < s.length → B - h n < k → ∃ t, IsTop s n t := by
    intro k
    induction k with
    | zero => intro n _ hk; omega
    | succ k ih =>
      intro n hn hk
      have hx : s[n]? = some s[n] := List.getElem?_eq_getElem hn
      rcases wf.par n _ hx with e | ⟨q, y, e, hy, _⟩
      · exact ⟨n, ⟨0, rfl⟩, _, hx, e⟩
      · have hup := u.par n _ hx (by omega)
        rw [e] at hup
        simp at hup
        have := u.le q
        obtain ⟨t, ht⟩ := ih q (List.getElem?_eq_some_iff.1 hy).1 (by omega)
        exact ⟨t, ht.up hx e⟩
  intro n hn
  exact key (B - h n + 1) n hn (by omega)

section
variable {w : World} {F : Nat → Prop} {bd bn cap : Nat} {rn : List RN} {rv : Value} {s : List Nd} {rs : List Sp}
theorem top_at (wf : WF s) (hD : RDocAt w F bd bn cap rn rv s rs) {n t : Nat} (ht : IsTop s n t) (hn : n < s.length) :
    Calls Tryz.prog 128 #[.pointer (some ⟨bd, 0, none⟩), .int .i64 n] w fun e w' => e = .returned (.int .i64 t) ∧ w' = w := by
  refine (top_any wf hD n hn).mono ?_
  rintro e w' ⟨⟨t', rfl, ht'⟩, rfl⟩
  exact ⟨by rw [ht.one ht'], rfl⟩

theorem IsWhere.one {l : List (Nat × Nat)} {p : Nat × Nat} {q q' : Int} (h : IsWhere l p q) (h' : IsWhere l p q') : q = q' := by
  have key : ∀ {i j : Nat}, l[i]? = some p → p ∉ l.take j → ¬ i < j := fun h1 h2 hlt => h2 (List.mem_of_getElem? (i := _) (by rw [List.getElem?_take, if_pos hlt]; exact h1))
  rcases h with ⟨i, rfl, hi, hi'⟩ | ⟨rfl, hn⟩ <;> rcases h' with ⟨j, rfl, hj, hj'⟩ | ⟨rfl, hn'⟩
  · have h1 := key hi hj'
    have h2 := key hj hi'
    omega
  · exact absurd (List.mem_of_getElem? hi) hn'
  · exact absurd (List.mem_of_getElem? hj) hn
  · rfl

theorem ahead_at (wf : WF s) {h : Nat → Nat} {B : Nat} (u : Up s h B) (hD : RDocAt w F bd bn cap rn rv s rs) {n k n2 k2 t : Nat} {qa qb : Int} (hn : n < s.length) (ht : IsTop s n t) (ha : IsWhere (plF s (B + 1) t) (n, k) qa) (hb : IsWhere (plF s (B + 1) t) (n2, k2) qb) :
    Calls Tryz.prog 129 #[.pointer (some ⟨bd, 0, none⟩), .agg #[.int .i64 n, .int .i64 k], .agg #[.int .i64 n2, .int .i64 k2]] w fun e w' => e = .returned (.bool (decide (qa < qb))) ∧ Below w.heap.size w w' := by
  refine (ahead_any wf u n k n2 k2 hn w hD).mono ?_
  rintro e w' ⟨⟨t', qa', qb', ht', ha', hb', rfl⟩, hB⟩
  obtain rfl := ht.one ht'
  exact ⟨by rw [ha.one ha', hb.one hb'], hB⟩
end

end Go.Proofs.YtabogkonklplcaaGreatDoor
