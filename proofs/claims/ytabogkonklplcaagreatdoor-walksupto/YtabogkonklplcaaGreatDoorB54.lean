import Derived.Test.YtabogkonklplcaaGreatDoorB53

/- marginlaw's Walks. -/
namespace Go.Proofs.YtabogkonklplcaaGreatDoor
open Go.RowKit Go.Shelf
set_option linter.unusedSimpArgs false
set_option linter.unusedVariables false
attribute [local go_sem] Oper.semAt_some

/-- A script that lies in memory, in block g. -/
structure Scr (w : World) (v : Value) (script : List OpR) (g : Nat) : Prop where
  lies : ∃ a off c, v = .slice a script.length c ∧ (0 < script.length → a = some ⟨g, off, none⟩) ∧ ScriptAt w g off script ∧ (0 < script.length → g < w.heap.size)
  ok : ∀ o ∈ script, OpOk o
  len : script.length + 6 < lots

/-- Such a script is played. -/
theorem ptrees_scr {PD : PDT} {G : World → Prop} (hA : Answers PD G) {wS : World} {v : Value} {script : List OpR} {g : Nat} (hS : Scr wS v script g) {Q : Nat → Prop} {w0 w : World} {yb : Nat} (hG : ∀ W, Keeps Q w0 W → G W) (hk : Below wS.heap.size wS w0) (hq : g < wS.heap.size → ¬ Q g) {docs : List DocR} (hI : InvE PD Q w0 w yb docs) (hdl : docs.length < lots) :
    Calls Tryz.prog 16 #[ptr yb, v] w (TreesPost PD Q w0 yb docs.length) := by
  obtain ⟨a, off, c, rfl, ha, hs, hg⟩ := hS.lies
  refine ptrees_any hA hG a g off c script ha ?_ hS.ok hS.len (fun h => hq (hg h)) hI hdl
  intro i o ho j u hu
  have hgl := hg (by have := (List.getElem?_eq_some_iff.1 ho).1; omega)
  exact (hk.cell (p := ⟨g, off + i * 10 + j, none⟩) hgl).trans (hs i o ho j u hu)

/-- The head script, just made. -/
theorem head_scr (w : World) : Scr (w.alloc (.cells (headOps.flatMap OpR.cells).toArray 39)) (.slice (some ⟨w.heap.size, 0, none⟩) 5 5) headOps w.heap.size where
  lies := by
    refine ⟨_, 0, 5, rfl, fun _ => rfl, ?_, fun _ => by simp⟩
    intro i o ho j u hu
    have hj : j < 10 := by have := (List.getElem?_eq_some_iff.1 hu).1; simpa using this
    rw [cell_of_heap (heap_alloc_new w _)]
    have := opcells_get headOps i o ho j hj
    rw [hu] at this
    simpa using this
  ok := fun o ho => (headOps_ok o ho).1
  len := by unfold lots; decide

/-- The one pair of a play, read. -/
theorem InvE.one {PD : PDT} {Q : Nat → Prop} {w0 w : World} {yb : Nat} {docs : List DocR} (h : InvE PD Q w0 w yb docs) (hl : docs.length = 1) :
    ∃ (d : DocR) (gp cp : Nat) (l0 : Value) (a0 y0 : Int) (FP FR : Nat → Prop), w.heap[yb]? = some (.cells #[.slice (some ⟨gp, 0, none⟩) 1 cp, l0, .int .i64 a0, .int .i64 y0] 34 (0, 0)) ∧
      w.cell? ⟨gp, 0, none⟩ = some (ptr d.bx) ∧ w.cell? ⟨gp, 1, none⟩ = some (ptr d.bd) ∧ gp ≠ yb ∧ PD w FP d.bx d.s ∧ RDocS w FR d.bd d.s ∧ PD.ok d.s ∧ (∀ b, FP b → b ≠ yb) ∧ (∀ b, FR b → b ≠ yb) := by
  obtain ⟨own, psv, h⟩ := h
  match docs, hl with
  | [d], _ =>
    obtain ⟨l0, a0, y0, hq⟩ := h.play
    obtain ⟨h1, h2, h3⟩ := h.doc 0 d rfl
    have hr := h.row
    rcases row_cases hr with ⟨_, hn⟩ | ⟨g, c, hv⟩
    · simp at hn
    · subst hv
      have hy := h.oy
      refine ⟨d, g, c, l0, a0, y0, _, _, hq, ?_, ?_, (h.ops g rfl).2, h1, h2, h3, fun b e e2 => by rw [e2] at e; omega, fun b e e2 => by rw [e2] at e; omega⟩
      · rw [hr.cellAt 0 (by simp)]; rfl
      · rw [hr.cellAt 1 (by simp)]; rfl

/-- How many turns are left. -/
def turnsLeft (a : Act) (w : World) : Nat := match a.tmps.getD 30 undef with
  | .pointer (some p) => 6 - (intOf ((w.cell? p).getD undef)).toNat
  | _ => 0

/-- Between two turns of Walks' loop. -/
def WalksInv (w w4 w6 w9 w12 WL : World) (v1 v2 v3 f1 f2 : Value) (E1 E2 : Value) (node other stop : Int) (la ma : Option Addr) (lc mc : Nat) (xs1 xs2 : List Nat) (a : Act) (wr : World) : Prop := ∃ (t tb : Nat) (ds : List Nat) (u : Nat → Value), t ≤ 6 ∧ a = Act.mk #[v1, Value.int IntKind.i64 node, Value.int IntKind.i64 other, v2, v3, Value.int IntKind.i64 stop, undef, undef, undef, undef, undef, undef, Value.pointer (some { block := w.heap.size, off := 0 }), Value.pointer (some { block := w.heap.size + 1, off := 0 }), Value.bool true, Value.bool true, Value.bool true, Value.pointer (some { block := w4.heap.size, off := 0 }), f1, E1, Value.slice la xs1.length lc, Value.pointer (some { block := w6.heap.size, off := 0 }), Value.bool true, f2, E2, Value.slice ma xs2.length mc, Value.pointer (some { block := w9.heap.size, off := 0 }), Value.bool true, Value.bool true, Value.pointer (some { block := w12.heap.size, off := 0 }), ptr tb, (u 31), (u 32), (u 33), undef, undef, (u 36), (u 37), (u 38), (u 39), (u 40), (u 41), (u 42), (u 43), (u 44), (u 45), (u 46), (u 47), (u 48), (u 49), (u 50), (u 51), (u 52), (u 53), (u 54), (u 55), (u 56), (u 57), (u 58), (u 59), (u 60), (u 61), (u 62), (u 63), (u 64), (u 65), (u 66), (u 67), (u 68), (u 69), (u 70), (u 71), (u 72), (u 73), (u 74), (u 75), (u 76), (u 77), (u 78), (u 79), (u 80), (u 81), (u 82), (u 83), (u 84), (u 85), (u 86), (u 87), (u 88), (u 89), (u 90), (u 91), (u 92), (u 93), (u 94), (u 95), (u 96), (u 97), (u 98), (u 99), (u 100), (u 101), (u 102), (u 103), (u 104), (u 105), (u 106), (u 107), (u 108), (u 109), (u 110), (u 111), (u 112), (u 113), (u 114), (u 115), (u 116), (u 117), (u 118), (u 119), (u 120), (u 121), (u 122), (u 123), (u 124), (u 125), (u 126), (u 127), (u 128), (u 129), (u 130), (u 131), (u 132), (u 133), (u 134), (u 135), (u 136), (u 137), (u 138), (u 139), (u 140), (u 141), (u 142), (u 143), (u 144), (u 145), (u 146), (u 147), (u 148), undef, undef, undef, undef, undef, undef, undef, undef, undef, undef, undef, undef, undef, undef, undef, undef, undef, undef, undef, undef, undef, undef, undef, (u 172), (u 173), (u 174), (u 175), (u 176), (u 177), (u 178), (u 179), (u 180), (u 181), undef, undef, undef, undef, undef, undef, undef] (ds.map mark) ∧
  wr.heap[tb]? = some (.cells #[.int .i64 (t : Int)] 3 (0, 0)) ∧ w12.heap.size + 1 ≤ tb ∧ Below (w12.heap.size + 1) WL wr ∧ ds.Nodup ∧ (∀ D ∈ ds, w12.heap.size + 1 ≤ D ∧ wr.heap[D]? = some (.deferred (some [])))

theorem WalksInv.of (w w4 w6 w9 w12 WL : World) (v1 v2 v3 f1 f2 : Value) (E1 E2 : Value) (node other stop : Int) (la ma : Option Addr) (lc mc : Nat) (xs1 xs2 : List Nat) (a : Act) (wr : World) (t tb : Nat) (ds : List Nat) (ht : t ≤ 6) (ha : a = Act.mk #[v1, Value.int IntKind.i64 node, Value.int IntKind.i64 other, v2, v3, Value.int IntKind.i64 stop, undef, undef, undef, undef, undef, undef, Value.pointer (some { block := w.heap.size, off := 0 }), Value.pointer (some { block := w.heap.size + 1, off := 0 }), Value.bool true, Value.bool true, Value.bool true, Value.pointer (some { block := w4.heap.size, off := 0 }), f1, E1, Value.slice la xs1.length lc, Value.pointer (some { block := w6.heap.size, off := 0 }), Value.bool true, f2, E2, Value.slice ma xs2.length mc, Value.pointer (some { block := w9.heap.size, off := 0 }), Value.bool true, Value.bool true, Value.pointer (some { block := w12.heap.size, off := 0 }), ptr tb, (a.tmps.getD 31 undef), (a.tmps.getD 32 undef), (a.tmps.getD 33 undef), undef, undef, (a.tmps.getD 36 undef), (a.tmps.getD 37 undef), (a.tmps.getD 38 undef), (a.tmps.getD 39 undef), (a.tmps.getD 40 undef), (a.tmps.getD 41 undef), (a.tmps.getD 42 undef), (a.tmps.getD 43 undef), (a.tmps.getD 44 undef), (a.tmps.getD 45 undef), (a.tmps.getD 46 undef), (a.tmps.getD 47 undef), (a.tmps.getD 48 undef), (a.tmps.getD 49 undef), (a.tmps.getD 50 undef), (a.tmps.getD 51 undef), (a.tmps.getD 52 undef), (a.tmps.getD 53 undef), (a.tmps.getD 54 undef), (a.tmps.getD 55 undef), (a.tmps.getD 56 undef), (a.tmps.getD 57 undef), (a.tmps.getD 58 undef), (a.tmps.getD 59 undef), (a.tmps.getD 60 undef), (a.tmps.getD 61 undef), (a.tmps.getD 62 undef), (a.tmps.getD 63 undef), (a.tmps.getD 64 undef), (a.tmps.getD 65 undef), (a.tmps.getD 66 undef), (a.tmps.getD 67 undef), (a.tmps.getD 68 undef), (a.tmps.getD 69 undef), (a.tmps.getD 70 undef), (a.tmps.getD 71 undef), (a.tmps.getD 72 undef), (a.tmps.getD 73 undef), (a.tmps.getD 74 undef), (a.tmps.getD 75 undef), (a.tmps.getD 76 undef), (a.tmps.getD 77 undef), (a.tmps.getD 78 undef), (a.tmps.getD 79 undef), (a.tmps.getD 80 undef), (a.tmps.getD 81 undef), (a.tmps.getD 82 undef), (a.tmps.getD 83 undef), (a.tmps.getD 84 undef), (a.tmps.getD 85 undef), (a.tmps.getD 86 undef), (a.tmps.getD 87 undef), (a.tmps.getD 88 undef), (a.tmps.getD 89 undef), (a.tmps.getD 90 undef), (a.tmps.getD 91 undef), (a.tmps.getD 92 undef), (a.tmps.getD 93 undef), (a.tmps.getD 94 undef), (a.tmps.getD 95 undef), (a.tmps.getD 96 undef), (a.tmps.getD 97 undef), (a.tmps.getD 98 undef), (a.tmps.getD 99 undef), (a.tmps.getD 100 undef), (a.tmps.getD 101 undef), (a.tmps.getD 102 undef), (a.tmps.getD 103 undef), (a.tmps.getD 104 undef), (a.tmps.getD 105 undef), (a.tmps.getD 106 undef), (a.tmps.getD 107 undef), (a.tmps.getD 108 undef), (a.tmps.getD 109 undef), (a.tmps.getD 110 undef), (a.tmps.getD 111 undef), (a.tmps.getD 112 undef), (a.tmps.getD 113 undef), (a.tmps.getD 114 undef), (a.tmps.getD 115 undef), (a.tmps.getD 116 undef), (a.tmps.getD 117 undef), (a.tmps.getD 118 undef), (a.tmps.getD 119 undef), (a.tmps.getD 120 undef), (a.tmps.getD 121 undef), (a.tmps.getD 122 undef), (a.tmps.getD 123 undef), (a.tmps.getD 124 undef), (a.tmps.getD 125 undef), (a.tmps.getD 126 undef), (a.tmps.getD 127 undef), (a.tmps.getD 128 undef), (a.tmps.getD 129 undef), (a.tmps.getD 130 undef), (a.tmps.getD 131 undef), (a.tmps.getD 132 undef), (a.tmps.getD 133 undef), (a.tmps.getD 134 undef), (a.tmps.getD 135 undef), (a.tmps.getD 136 undef), (a.tmps.getD 137 undef), (a.tmps.getD 138 undef), (a.tmps.getD 139 undef), (a.tmps.getD 140 undef), (a.tmps.getD 141 undef), (a.tmps.getD 142 undef), (a.tmps.getD 143 undef), (a.tmps.getD 144 undef), (a.tmps.getD 145 undef), (a.tmps.getD 146 undef), (a.tmps.getD 147 undef), (a.tmps.getD 148 undef), undef, undef, undef, undef, undef, undef, undef, undef, undef, undef, undef, undef, undef, undef, undef, undef, undef, undef, undef, undef, undef, undef, undef, (a.tmps.getD 172 undef), (a.tmps.getD 173 undef), (a.tmps.getD 174 undef), (a.tmps.getD 175 undef), (a.tmps.getD 176 undef), (a.tmps.getD 177 undef), (a.tmps.getD 178 undef), (a.tmps.getD 179 undef), (a.tmps.getD 180 undef), (a.tmps.getD 181 undef), undef, undef, undef, undef, undef, undef, undef] (ds.map mark))
    (h : wr.heap[tb]? = some (.cells #[.int .i64 (t : Int)] 3 (0, 0)) ∧ w12.heap.size + 1 ≤ tb ∧ Below (w12.heap.size + 1) WL wr ∧ ds.Nodup ∧ (∀ D ∈ ds, w12.heap.size + 1 ≤ D ∧ wr.heap[D]? = some (.deferred (some [])))) : WalksInv w w4 w6 w9 w12 WL v1 v2 v3 f1 f2 E1 E2 node other stop la ma lc mc xs1 xs2 a wr := ⟨t, tb, ds, fun k => a.tmps.getD k undef, ht, ha, h⟩

theorem turnsLeft_eq {a : Act} {w : World} {tb t : Nat} (ha : a.tmps.getD 30 undef = ptr tb) (hw : w.heap[tb]? = some (.cells #[.int .i64 (t : Int)] 3 (0, 0))) : turnsLeft a w = 6 - t := by
  unfold turnsLeft
  rw [ha]
  have hc : w.cell? ⟨tb, 0, none⟩ = some (.int .i64 (t : Int)) := cell_of_heap hw 0
  show 6 - (intOf ((w.cell? ⟨tb, 0, none⟩).getD undef)).toNat = 6 - t
  rw [hc]
  simp [intOf]

set_option maxRecDepth 100000 in
set_option maxHeartbeats 4000000 in
theorem walks_any {PD : PDT} {G : World → Prop} (hA : Answers PD G) (hW : WalkAns PD G) {w : World} (hGw : G w) {v1 v2 v3 : Value} {s1 s2 s3 : List OpR} {g1 g2 g3 : Nat} (hs1 : Scr w v1 s1 g1) (hs2 : Scr w v2 s2 g2) (hs3 : Scr w v3 s3 g3) (node other stop : Int) (hst1 : -9223372036854775808 ≤ stop) (hst2 : stop ≤ 9223372036854775807) :
    Calls Tryz.prog 4 #[v1, .int .i64 node, .int .i64 other, v2, v3, .int .i64 stop] w fun e w' => e = .returned (.bool true) ∧ Below w.heap.size w w' := by
  obtain ⟨W0, hW0⟩ : ∃ W, W = (w.alloc (.cells #[.bool false] 4)).alloc (.cells #[.slice none 0 0, .nilIface, .int .i64 0, .int .i64 0] 34) := ⟨_, rfl⟩
  have hz0 : W0.heap.size = w.heap.size + 2 := by rw [hW0]; simp
  have hbW : Below w.heap.size w W0 := by rw [hW0]; exact ((Below.refl _ w).alloc (Nat.le_refl _) _).alloc (by simp) _
  have hqy : W0.heap[w.heap.size + 1]? = some (.cells #[.slice none 0 0, .nilIface, .int .i64 0, .int .i64 0] 34 (0, 0)) := by
    have := heap_alloc_new (w.alloc (.cells #[.bool false] 4)) (.cells #[.slice none 0 0, .nilIface, .int .i64 0, .int .i64 0] 34)
    rw [hW0]; simpa using this
  have hqr : W0.heap[w.heap.size]? = some (.cells #[.bool false] 4 (0, 0)) := by rw [hW0, Below.heap_alloc _ _ _ (by simp), heap_alloc_new]
  obtain ⟨Q0, hQ0⟩ : ∃ Q : Nat → Prop, Q = fun b => w.heap.size + 1 ≤ b := ⟨_, rfl⟩
  have inv0 : InvE PD Q0 W0 W0 (w.heap.size + 1) [] := by
    refine ⟨fun b => if b = w.heap.size + 1 then 1 else 0, .slice none 0 0, ⟨_, _, _, hqy⟩, World.ownsRow_nil _ _ _ _, by simp, fun b e => (by cases e), fun b e => ?_, fun b e => by rw [hQ0]; show _ ≤ _; omega, Keeps.refl _ _, fun i d h => (by simp at h)⟩
    have : b = w.heap.size + 1 := by
      rcases Classical.em (b = w.heap.size + 1) with e1 | e1
      · exact e1
      · simp [e1] at e
    exact ⟨by rw [hQ0]; show _ ≤ _; omega, by omega⟩
  have hG0 : ∀ W, Keeps Q0 W0 W → G W := by
    intro W hK
    refine hA.gb w W hGw (hbW.trans ?_)
    exact ⟨hK.os, hK.tape, hK.output, hK.size, fun k hk => hK.block k (by omega) (by rw [hQ0]; show ¬ _ ≤ _; omega)⟩
  have CNEW := hid (step_new hA.pd inv0 hG0 hA.new 0 0 0 0 ⟨#[]⟩ 0 0 0 0 (by unfold lots; decide))
  have HALL := hid (And.intro hA (And.intro hW (And.intro hs1 (And.intro hs2 (And.intro hs3 (And.intro hG0 (And.intro hbW hqr)))))))
  clear inv0 hG0 hqy hqr hA hW hs1 hs2 hs3 hGw hbW
  refine callsIn_wide.1 (callsIn_of_wp_marks (F := Fence.wide) (n := 1) Tryz.func4 rfl trivial ?_ rfl)
  simp only [Tryz.ntmps4, List.size_toArray, List.length_cons, List.length_nil, Nat.reduceAdd, Nat.reduceSub, Array.replicate_succ, Array.replicate_zero, List.push_toArray, List.append_toArray, List.nil_append, List.cons_append]
  rw [hW0] at CNEW
  gi_wp2_with (first
    | (refine ⟨trivial, ?_⟩; gi_at_call 15; refine (callsIn_wide.2 CNEW.out).mono ?_; clear CNEW; rintro e w1 ⟨rfl, docs1, hI1, hm1, hl1⟩; have HI1 := hid hI1; clear hI1)
    | (refine ⟨trivial, ?_⟩; gi_at_call 17; refine (callsIn_wide.2 (head_any _)).mono ?_; rintro e w2 ⟨rfl, hw2⟩))
  -- the head
  obtain ⟨hA, hW, hs1, hs2, hs3, hG0, hbW, hqr⟩ := HALL.out
  rw [← hW0] at HI1
  obtain ⟨Q1, hI2, hK1, hQ1, hN1⟩ := HI1.out.rebase hA.pd (w' := w2) (by rw [hw2]; exact (Keeps.refl _ _).alloc _) (fun psv h => h.below (by rw [hw2]; exact (Below.refl _ _).alloc (Nat.le_refl _) _))
  have hQ01 : ∀ b, Q1 b → w.heap.size + 1 ≤ b := fun b e => by have := hQ1 b e; rw [hQ0] at this; exact this
  have hG1 : ∀ W, Keeps Q1 w2 W → G W := fun W hK => hG0 W (hK1.trans (hK.mono (fun k _ e => .inl (hQ1 k e))))
  have old : ∀ W, Keeps Q0 W0 W → Below w.heap.size w W ∧ W.heap[w.heap.size]? = some (.cells #[.bool false] 4 (0, 0)) := by
    intro W hK
    have hz := hbW.size
    refine ⟨hbW.trans ⟨hK.os, hK.tape, hK.output, hK.size, fun k hk => hK.block k (by omega) (by rw [hQ0]; show ¬ _ ≤ _; omega)⟩, ?_⟩
    rw [hK.block w.heap.size (by omega) (by rw [hQ0]; show ¬ _ ≤ _; omega)]
    exact hqr
  have hb2 := (old w2 hK1).1
  have hsz2 : w2.heap.size = w1.heap.size + 1 := by rw [hw2]; simp
  have hlen1 : docs1.length = 1 := by simp at hm1 hl1; omega
  have C1 := ptrees_scr hA (head_scr w1) hG1 (by rw [← hw2]; exact Below.refl _ _) (fun _ => hN1 _ (Nat.le_refl _) (by omega)) (hI2) (by rw [hlen1]; unfold lots; decide)
  rw [hlen1] at C1
  rw [← hw2]
  have HX := hid (And.intro hG1 (And.intro hQ01 (And.intro hQ1 (And.intro hK1 (And.intro hb2 old)))))
  clear hI2 hK1 hQ1 hN1 hQ01 hG1 old hb2 hm1 hl1 HI1 hA hW hs1 hs2 hs3 hG0 hbW hqr hlen1
  refine ⟨trivial, (callsIn_wide.2 C1).mono ?_⟩
  clear C1
  rintro e w3 ⟨rfl, docs3, hI3, hl3⟩
  have HI3 := hid hI3
  clear hI3 hsz2
  clear hw2
  gi_wp2_with fail
  have C2 := ptrees_scr HALL.out.1 HALL.out.2.2.1 HX.out.1 HX.out.2.2.2.2.1 (fun hg e => by have := HX.out.2.1 _ e; omega) HI3.out (by rw [hl3]; unfold lots; decide)
  rw [hl3] at C2
  refine ⟨trivial, (callsIn_wide.2 C2).mono ?_⟩
  clear C2
  rintro e w4 ⟨rfl, docs4, hI4, hl4⟩
  obtain ⟨d, gp, cp, l0, a0, y0, FP, FR, hq4, cx, cd, hgy, hPd, hRd, hwf, nFP, nFR⟩ := hI4.one hl4
  have cy : w4.cell? ⟨w.heap.size + 1, 0, none⟩ = some (.slice (some ⟨gp, 0, none⟩) 1 cp) := cell_of_heap hq4 0
  obtain ⟨xs1, ab1, yy1, hx1, hM1, hR1⟩ := HALL.out.2.1 d.s hwf node
  obtain ⟨xs2, ab2, yy2, hx2, hM2, hR2⟩ := HALL.out.2.1 d.s hwf other
  have hyb4 : w.heap.size + 1 < w4.heap.size := heap_lt hq4
  have K4 : Keeps Q0 W0 w4 := HX.out.2.2.2.1.trans ((by obtain ⟨own, psv, hI⟩ := hI4; exact hI.fr : Keeps Q1 w2 w4).mono (fun k _ e => .inl (HX.out.2.2.1 k e)))
  have yQ : Q0 (w.heap.size + 1) := by rw [hQ0]; show _ ≤ _; omega
  have KN : ∀ W, Keeps (fun b => b = w.heap.size + 1) w4 W → Keeps Q0 W0 W := fun W hK => K4.trans (hK.mono (fun k _ e => .inl (by rw [e]; exact yQ)))
  have PN : ∀ W, Keeps (fun b => b = w.heap.size + 1) w4 W → G W ∧ PD W FP d.bx d.s ∧ RDocS W FR d.bd d.s := fun W hK => ⟨HALL.out.2.2.2.2.2.1 W (KN W hK), HALL.out.1.pd.keeps hPd hK (fun b e => nFP b e), hRd.keeps hK (fun b e => nFR b e)⟩
  have HMID := hid (And.intro hI4 (And.intro KN (And.intro PN (And.intro hM1 (And.intro hR1 (And.intro hM2 (And.intro hR2 (And.intro hx1 hx2))))))))
  have HQ4 := hid hq4
  clear hI4 hq4 hPd hRd hwf nFP nFR HI3 hl3 hM1 hM2 hR1 hR2 K4 yQ KN PN hx1 hx2
  gi_wp2_with fail
  -- Walk of the first node
  obtain ⟨wp, hwp⟩ : ∃ wp, w4.alloc (.cells #[ptr d.bx, ptr d.bd] 44) = wp := ⟨_, rfl⟩
  rw [hwp]
  have kp : Keeps (fun b => b = w.heap.size + 1) w4 wp := by rw [← hwp]; exact (Keeps.refl _ _).alloc _
  have szp : wp.heap.size = w4.heap.size + 1 := by rw [← hwp]; simp
  have YP : Hid (wp.heap[w.heap.size + 1]? = w4.heap[w.heap.size + 1]?) := by
    show _ = _
    rw [← hwp]
    exact Below.heap_alloc _ _ _ hyb4
  have qp : wp.heap[w4.heap.size]? = some (.cells #[ptr d.bx, ptr d.bd] 44 (0, 0)) := by rw [← hwp]; exact heap_alloc_new w4 _
  have C3 := HMID.out.2.2.2.1 wp FP d.bx (HMID.out.2.2.1 wp kp).1 (HMID.out.2.2.1 wp kp).2.1
  refine ⟨trivial, (callsIn_wide.2 C3).mono ?_⟩
  clear C3 hwp cx cd cy
  rintro e w5 ⟨f1, rfl, hb5, hf1⟩
  have k5 : Keeps (fun b => b = w.heap.size + 1) w4 w5 := kp.trans (Keeps.of_below hb5)
  have q5 := (hb5.block _ (heap_lt qp)).trans qp
  have sz5 := hb5.size
  have Y5 : Hid (w5.heap[w.heap.size + 1]? = w4.heap[w.heap.size + 1]?) := by
    show _ = _
    rw [hb5.block _ (by omega)]
    exact YP.out
  have c50 : w5.cell? ⟨w4.heap.size, 0, none⟩ = some (ptr d.bx) := cell_of_heap q5 0
  have c51 : w5.cell? ⟨w4.heap.size, 1, none⟩ = some (ptr d.bd) := cell_of_heap q5 1
  have H5 := hid (And.intro k5 (And.intro q5 (And.intro hf1 (And.intro szp sz5))))
  clear k5 q5 hf1 szp sz5 hb5 qp kp
  gi_wp2_with fail
  obtain ⟨k5, q5, hf1, szp, sz5⟩ := H5.out
  have C4 := HMID.out.2.2.2.2.1 w5 FR d.bd (HMID.out.2.2.1 w5 k5).2.2
  refine ⟨trivial, (callsIn_wide.2 C4).mono ?_⟩
  clear C4 c50 c51
  rintro e w6 ⟨la, lc, rfl, hl6, hb6⟩
  have k6 : Keeps (fun b => b = w.heap.size + 1) w4 w6 := k5.trans (Keeps.of_below hb6)
  have q6 := (hb6.block _ (heap_lt q5)).trans q5
  have sz6 := hb6.size
  have f6 : WRes w6 (fun b => wp.heap.size ≤ b ∧ b < w5.heap.size) f1 xs1 yy1 := hf1.keeps (Keeps.of_below (F := fun _ => False) hb6) (fun _ _ e => e)
  have c60 : w6.cell? ⟨w4.heap.size, 0, none⟩ = some (ptr d.bx) := cell_of_heap q6 0
  have c61 : w6.cell? ⟨w4.heap.size, 1, none⟩ = some (ptr d.bd) := cell_of_heap q6 1
  have YB6 : Hid (w6.heap[w.heap.size + 1]? = w4.heap[w.heap.size + 1]?) := by
    show _ = _
    rw [hb6.block _ (by have := k5.size; omega)]
    exact Y5.out
  have H6 := hid (And.intro k6 (And.intro q6 (And.intro f6 (And.intro szp (And.intro sz5 (And.intro sz6 hl6))))))
  clear k5 q5 hf1 szp sz5 hb6 k6 q6 f6 sz6 hl6
  gi_wp2_with fail
  -- is it as the document says?
  obtain ⟨k6, q6, f6, szp, sz5, sz6, hl6⟩ := H6.out
  obtain ⟨wf6, hwf6⟩ : ∃ wq, w6.alloc (.cells #[.int .i64 ab1, .int .i64 yy1] 32) = wq := ⟨_, rfl⟩
  rw [hwf6]
  have bq6 : Below w6.heap.size w6 wf6 := by rw [← hwf6]; exact (Below.refl _ _).alloc (Nat.le_refl _) _
  have szf : wf6.heap.size = w6.heap.size + 1 := by rw [← hwf6]; simp
  have qf6 : wf6.heap[w6.heap.size]? = some (.cells #[.int .i64 ab1, .int .i64 yy1] 32 (0, 0)) := by rw [← hwf6]; exact heap_alloc_new w6 _
  have kf6 : Keeps (fun b => b = w.heap.size + 1) w4 wf6 := k6.trans (Keeps.of_below bq6)
  have sz46 := k6.size
  have yq6 : wf6.heap[w.heap.size + 1]? = some (.cells #[.slice (some ⟨gp, 0, none⟩) 1 cp, l0, .int .i64 a0, .int .i64 y0] 34 (0, 0)) := by
    rw [bq6.block _ (by omega)]
    exact (YB6.out).trans HQ4.out
  have C5 := las_any (w.heap.size + 1) _ _ _ _ ab1 yy1 wf6 yq6
  refine ⟨trivial, (callsIn_wide.2 C5).mono ?_⟩
  clear C5 c60 c61 hwf6
  rintro e w7 ⟨rfl, kk7, yq7⟩
  have k7 : Keeps (fun b => b = w.heap.size + 1) w4 w7 := kf6.trans (kk7.mono (fun _ _ e => .inl e))
  have ne4 : ¬ w4.heap.size = w.heap.size + 1 := by omega
  have q7 : w7.heap[w4.heap.size]? = some (.cells #[ptr d.bx, ptr d.bd] 44 (0, 0)) := by rw [kk7.block _ (by omega) ne4, bq6.block _ (heap_lt q6)]; exact q6
  have qf7 : w7.heap[w6.heap.size]? = some (.cells #[.int .i64 ab1, .int .i64 yy1] 32 (0, 0)) := by rw [kk7.block _ (by omega) (by omega)]; exact qf6
  have f7 : WRes w7 (fun b => wp.heap.size ≤ b ∧ b < w5.heap.size) f1 xs1 yy1 := (f6.keeps (Keeps.of_below (F := fun _ => False) bq6) (fun _ _ e => e)).keeps kk7 (fun b e e2 => by have := e.1; omega)
  have l7 : w7.ownsRow w5.heap.size 3 1 (.slice la xs1.length lc) xs1.length (intsV xs1) := kk7.rowB (ownsRow_below hl6 bq6) (fun b e e2 => by have := (hl6.lt b e).1; omega)
  have sz7 := kk7.size
  have c70 : w7.cell? ⟨w4.heap.size, 0, none⟩ = some (ptr d.bx) := cell_of_heap q7 0
  have c71 : w7.cell? ⟨w4.heap.size, 1, none⟩ = some (ptr d.bd) := cell_of_heap q7 1
  have H7 := hid (And.intro k7 (And.intro q7 (And.intro qf7 (And.intro f7 (And.intro l7 (And.intro yq7 (And.intro szp (And.intro sz5 (And.intro sz6 (And.intro szf (And.intro sz7 sz46)))))))))))
  clear k6 q6 f6 szp sz5 sz6 hl6 bq6 szf qf6 kf6 yq6 kk7 k7 q7 qf7 f7 l7 sz7 yq7 sz46 ne4
  gi_wp2_with fail
  -- Walk of the other node
  obtain ⟨k7, q7, qf7, f7, l7, yq7, szp, sz5, sz6, szf, sz7, sz46⟩ := H7.out
  have C6 := HMID.out.2.2.2.2.2.1 w7 FP d.bx (HMID.out.2.2.1 w7 k7).1 (HMID.out.2.2.1 w7 k7).2.1
  refine ⟨trivial, (callsIn_wide.2 C6).mono ?_⟩
  clear C6 c70 c71
  rintro e w8 ⟨f2, rfl, hb8, hf2⟩
  have k8 : Keeps (fun b => b = w.heap.size + 1) w4 w8 := k7.trans (Keeps.of_below hb8)
  have q8 := (hb8.block _ (heap_lt q7)).trans q7
  have sz8 := hb8.size
  have c80 : w8.cell? ⟨w4.heap.size, 0, none⟩ = some (ptr d.bx) := cell_of_heap q8 0
  have c81 : w8.cell? ⟨w4.heap.size, 1, none⟩ = some (ptr d.bd) := cell_of_heap q8 1
  have H8 := hid (And.intro k8 (And.intro q8 (And.intro hf2 (And.intro hb8 sz8))))
  clear k8 q8 hf2 hb8 sz8 k7 q7 qf7 f7 l7 yq7 szp sz5 sz6 szf sz7 sz46
  gi_wp2_with fail
  obtain ⟨k8, q8, hf2, hb8, sz8⟩ := H8.out
  have C7 := HMID.out.2.2.2.2.2.2.1 w8 FR d.bd (HMID.out.2.2.1 w8 k8).2.2
  refine ⟨trivial, (callsIn_wide.2 C7).mono ?_⟩
  clear C7 c80 c81
  rintro e w9 ⟨ma, mc, rfl, hl9, hb9⟩
  have H9 := hid (And.intro hl9 hb9)
  clear hl9 hb9 k8 q8 hf2 hb8 sz8
  gi_wp2_with fail
  obtain ⟨k7, q7, qf7, f7, l7, yq7, szp, sz5, sz6, szf, sz7, sz46⟩ := H7.out
  obtain ⟨k8, q8, hf2, hb8, sz8⟩ := H8.out
  obtain ⟨hl9, hb9⟩ := H9.out
  have sz9 := hb9.size
  obtain ⟨wf9, hwf9⟩ : ∃ wq, w9.alloc (.cells #[.int .i64 ab2, .int .i64 yy2] 32) = wq := ⟨_, rfl⟩
  rw [hwf9]
  have bq9 : Below w9.heap.size w9 wf9 := by rw [← hwf9]; exact (Below.refl _ _).alloc (Nat.le_refl _) _
  have szf9 : wf9.heap.size = w9.heap.size + 1 := by rw [← hwf9]; simp
  have qf9 : wf9.heap[w9.heap.size]? = some (.cells #[.int .i64 ab2, .int .i64 yy2] 32 (0, 0)) := by rw [← hwf9]; exact heap_alloc_new w9 _
  have b79 : Below w7.heap.size w7 wf9 := (hb8.trans (hb9.mono sz8)).trans (bq9.mono (by omega))
  have kf9 : Keeps (fun b => b = w.heap.size + 1) w4 wf9 := k7.trans (Keeps.of_below b79)
  have C8 := las_any (w.heap.size + 1) _ _ _ _ ab2 yy2 wf9 ((b79.block _ (heap_lt yq7)).trans yq7)
  refine ⟨trivial, (callsIn_wide.2 C8).mono ?_⟩
  clear C8 hwf9
  rintro e w10 ⟨rfl, kk10, yq10⟩
  have sz10 := kk10.size
  have k10 : Keeps (fun b => b = w.heap.size + 1) w4 w10 := kf9.trans (kk10.mono (fun _ _ e => .inl e))
  have qa : w10.heap[w6.heap.size]? = some (.cells #[.int .i64 ab1, .int .i64 yy1] 32 (0, 0)) := by rw [kk10.block _ (by omega) (by omega), b79.block _ (heap_lt qf7)]; exact qf7
  have qb : w10.heap[w9.heap.size]? = some (.cells #[.int .i64 ab2, .int .i64 yy2] 32 (0, 0)) := by rw [kk10.block _ (by omega) (by omega)]; exact qf9
  have fa : WRes w10 (fun b => w4.heap.size ≤ b ∧ b < w10.heap.size) f1 xs1 yy1 := ((f7.keeps (Keeps.of_below (F := fun _ => False) b79) (fun _ _ e => e)).keeps kk10 (fun b e e2 => by have := e.1; omega)).wider (fun b e => ⟨by have := e.1; omega, by have := e.2; omega⟩)
  have fb : WRes w10 (fun b => w4.heap.size ≤ b ∧ b < w10.heap.size) f2 xs2 yy2 := ((hf2.keeps (Keeps.of_below (F := fun _ => False) (hb9.trans (bq9.mono sz9))) (fun _ _ e => e)).keeps kk10 (fun b e e2 => by have := e.1; omega)).wider (fun b e => ⟨by have := e.1; omega, by have := e.2; omega⟩)
  have la10 : w10.ownsRow w4.heap.size 3 1 (.slice la xs1.length lc) xs1.length (intsV xs1) := ownsRow_base (kk10.rowB (ownsRow_below l7 b79) (fun b e e2 => by have := (l7.lt b e).1; omega)) (by omega)
  have ma10 : w10.ownsRow w4.heap.size 3 1 (.slice ma xs2.length mc) xs2.length (intsV xs2) := ownsRow_base (kk10.rowB (ownsRow_below hl9 bq9) (fun b e e2 => by have := (hl9.lt b e).1; omega)) (by omega)
  have e1 : w10.cell? ⟨w6.heap.size, 1, none⟩ = some (.int .i64 yy1) := cell_of_heap qa 1
  have e2 : w10.cell? ⟨w9.heap.size, 1, none⟩ = some (.int .i64 yy2) := cell_of_heap qb 1
  have gd := guard_nil
  have eq1 := fa.eql
  have eq2 := fb.eql
  obtain ⟨b1, hb1⟩ : ∃ b, (yy1 != 0) = b := ⟨_, rfl⟩
  obtain ⟨b2, hb2⟩ : ∃ b, (yy2 != 0) = b := ⟨_, rfl⟩
  rw [hb1] at eq1
  rw [hb2] at eq2
  have H10 := hid (And.intro k10 (And.intro yq10 (And.intro fa (And.intro fb (And.intro la10 ma10)))))
  clear k7 q7 qf7 f7 l7 yq7 szp sz5 sz6 szf sz7 sz46 k8 q8 hf2 hb8 sz8 hl9 hb9 sz9 bq9 szf9 qf9 b79 kf9 kk10 sz10 k10 qa qb fa fb la10 ma10 yq10 H5 H6 H7 H8 H9 Y5 YB6 YP
  gi_wp2_with fail
  -- what is done then
  obtain ⟨k10, yq10, fa, fb, la10, ma10⟩ := H10.out
  have hp10 : ∀ psv, PlayAt w4 (w.heap.size + 1) psv → PlayAt w10 (w.heap.size + 1) psv := by
    rintro psv ⟨p1, p2, p3, hp⟩
    have := HQ4.out
    rw [hp] at this
    cases this
    exact ⟨_, _, _, yq10⟩
  obtain ⟨Q2, hI10, hK10, hQ2, hN2⟩ := HMID.out.1.rebase HALL.out.1.pd k10 hp10
  have hQ02 : ∀ b, Q2 b → w.heap.size + 1 ≤ b := fun b e => HX.out.2.1 b (hQ2 b e)
  have hG2 : ∀ W, Keeps Q2 w10 W → G W := fun W hK => HX.out.1 W (hK10.trans (hK.mono (fun k _ e => .inl (hQ2 k e))))
  have K010 : Keeps Q0 W0 w10 := HMID.out.2.1 w10 k10
  have hbw10 := (HX.out.2.2.2.2.2 w10 K010).1
  have C9 := ptrees_scr HALL.out.1 HALL.out.2.2.2.1 hG2 hbw10 (fun hg e => by have := hQ02 _ e; omega) hI10 (by rw [hl4]; unfold lots; decide)
  rw [hl4] at C9
  refine ⟨trivial, (callsIn_wide.2 C9).mono ?_⟩
  clear C9 hI10 hp10 e1 e2 eq1 eq2 hb1 hb2
  rintro e w11 ⟨rfl, docs11, hI11, hl11⟩
  have k11 : Keeps Q2 w10 w11 := by obtain ⟨own, psv, hI⟩ := hI11; exact hI.fr
  have K011 : Keeps Q0 W0 w11 := K010.trans (k11.mono (fun k _ e => .inl (HX.out.2.2.1 k (hQ2 k e))))
  have fa11 := fa.keeps k11 (fun b e => hN2 b e.1 e.2)
  have fb11 := fb.keeps k11 (fun b e => hN2 b e.1 e.2)
  have la11 := k11.rowB la10 (fun b e => hN2 b (la10.lt b e).1 (la10.lt b e).2)
  have ma11 := k11.rowB ma10 (fun b e => hN2 b (ma10.lt b e).1 (ma10.lt b e).2)
  have sz1011 := k11.size
  have sz410 := k10.size
  have H11 := hid (And.intro hI11 (And.intro K011 (And.intro fa11 (And.intro fb11 (And.intro la11 (And.intro ma11 (And.intro hG2 (And.intro hbw10 (And.intro hQ02 (And.intro k11 sz1011))))))))))
  have hx1 := HMID.out.2.2.2.2.2.2.2.1
  have hx2 := HMID.out.2.2.2.2.2.2.2.2
  have CP := hid (pick_any stop (1 + max xs1.length xs2.length) (by omega) (by unfold lots; omega) hst1 hst2)
  have hmx : ((1 + max xs1.length xs2.length : Nat) : Int) = 1 + max (xs1.length : Int) (xs2.length : Int) := by omega
  rw [hmx] at CP
  clear hI11 K011 fa11 fb11 la11 ma11 k11 sz1011 K010 hbw10 hG2 hQ02 hN2 hQ2 hK10 k10 yq10 fa fb la10 ma10 hmx
  gi_wp2_with fail
  refine ⟨trivial, (callsIn_wide.2 (CP.out w11)).mono ?_⟩
  clear CP
  rintro e w12 ⟨rfl, rfl⟩
  gi_wp2_with fail
  obtain ⟨N, hN⟩ : ∃ N, pickN stop (1 + max xs1.length xs2.length) = N := ⟨_, rfl⟩
  rw [hN]
  clear hN
  obtain ⟨WL, hWL⟩ : ∃ WL, (w12.alloc (.cells #[.int .i64 (N : Int)] 3)).alloc (.cells #[.int .i64 0] 3) = WL := ⟨_, rfl⟩
  rw [hWL]
  have szL : WL.heap.size = w12.heap.size + 2 := by rw [← hWL]; simp
  have bL : Below w12.heap.size w12 WL := by rw [← hWL]; exact ((Below.refl _ _).alloc (Nat.le_refl _) _).alloc (by simp) _
  have qN : WL.heap[w12.heap.size]? = some (.cells #[.int .i64 (N : Int)] 3 (0, 0)) := by rw [← hWL, Below.heap_alloc _ _ _ (by simp)]; exact heap_alloc_new w12 _
  have qT : WL.heap[w12.heap.size + 1]? = some (.cells #[.int .i64 0] 3 (0, 0)) := by
    have := heap_alloc_new (w12.alloc (.cells #[.int .i64 (N : Int)] 3)) (.cells #[.int .i64 0] 3)
    rw [hWL, World.size_alloc] at this
    exact this
  have HL := hid (And.intro bL (And.intro qN qT))
  clear bL qN qT hWL
  generalize errV ab1 yy1 = E1
  generalize errV ab2 yy2 = E2
  refine wpIn_loop (WalksInv w w4 w6 w9 w12 WL v1 v2 v3 f1 f2 E1 E2 node other stop la ma lc mc xs1 xs2)
    (fun a wr => turnsLeft a wr) ?start ?round
  case start =>
    exact WalksInv.of _ _ _ _ _ _ _ _ _ _ _ _ _ _ _ _ _ _ _ _ _ _ _ _ 0 (w12.heap.size + 1) [] (Nat.zero_le _) rfl ⟨HL.out.2.2, Nat.le_refl _, Below.refl _ _, by simp, by simp⟩
  case round =>
    rintro a wr ⟨t, tb, ds, u, ht6, rfl, htb, htS, hbr, hnd, hds⟩
    obtain ⟨hI11, K011, fa11, fb11, la11, ma11, hG2, hbw10, hQ02, k1011, sz1011⟩ := H11.out
    obtain ⟨bL, qN, qT⟩ := HL.out
    have szr := hbr.size
    have bwr : Below w12.heap.size w12 wr := bL.trans (hbr.mono (by omega))
    have qNr : wr.heap[w12.heap.size]? = some (.cells #[.int .i64 (N : Int)] 3 (0, 0)) := (hbr.block _ (by omega)).trans qN
    have cN : wr.cell? ⟨w12.heap.size, 0, none⟩ = some (.int .i64 (N : Int)) := cell_of_heap qNr 0
    have cT : wr.cell? ⟨tb, 0, none⟩ = some (.int .i64 (t : Int)) := cell_of_heap htb 0
    by_cases ht : t < 6
    · have far := fa11.keeps (Keeps.of_below (F := fun _ => False) bwr) (fun _ _ e => e)
      have fbr := fb11.keeps (Keeps.of_below (F := fun _ => False) bwr) (fun _ _ e => e)
      have lar := ownsRow_below la11 bwr
      have mar := ownsRow_below ma11 bwr
      have eq1 := far.eql
      have eq2 := fbr.eql
      have gd := guard_nil
      have htI : (t : Int) < 6 := by omega
      have htlt : tb < wr.heap.size := heap_lt htb
      have hNlt : w12.heap.size < wr.heap.size := heap_lt qNr
      have HR := hid (And.intro far (And.intro fbr (And.intro lar (And.intro mar (And.intro hnd (And.intro hds (And.intro htb (And.intro hbr qNr))))))))
      clear hI11 K011 fa11 fb11 la11 ma11 hG2 hbw10 hQ02 k1011 bL qN qT bwr qNr hnd hds hbr htb far fbr lar mar
      gi_wp2_with fail
      · -- the other one gives nothing
        obtain ⟨far, fbr, lar, mar, hnd, hds, htb, hbr, qNr⟩ := HR.out
        have q2 := heap_alloc_new (wr.alloc (.cells #[.slice ma xs2.length mc] 24)) (.cells #[.int .i64 ((t + 1 : Nat) : Int)] 3)
        rw [World.size_alloc] at q2
        refine ⟨WalksInv.of _ _ _ _ _ _ _ _ _ _ _ _ _ _ _ _ _ _ _ _ _ _ _ _ (t + 1) (wr.heap.size + 1) ds (by omega) rfl ⟨q2, by omega, ?_, hnd, ?_⟩, ?_⟩
        · exact (hbr.alloc (by omega) _).alloc (by simp; omega) _
        · intro D hm
          have h1 := hds D hm
          exact ⟨h1.1, (Below.heap_alloc _ _ _ (by have := heap_lt h1.2; simp; omega)).trans ((Below.heap_alloc _ _ _ (heap_lt h1.2)).trans h1.2)⟩
        · exact Nat.lt_of_le_of_lt (Nat.le_of_eq (turnsLeft_eq (t := t + 1) (tb := wr.heap.size + 1) rfl q2)) (Nat.lt_of_lt_of_le (show 6 - (t + 1) < 6 - t by omega) (Nat.le_of_eq (turnsLeft_eq (t := t) (tb := tb) rfl htb).symm))
      · -- the other one is gone through
        have hy0 : yy2 = 0 := by
          have hz : (yy2 != 0) = false := by assumption
          simpa using hz
        obtain ⟨far, fbr, lar, mar, hnd, hds, htb, hbr, qNr⟩ := HR.out
        rcases fbr with ⟨hy, _⟩ | ⟨hyz, hWk⟩
        · omega
        clear hyz
        obtain ⟨vb, va, vc, hfe, hvb, hvrow, hvP, hvg⟩ := hWk
        obtain ⟨wq, hwq⟩ : ∃ wq, (wr.alloc (.cells #[.slice ma xs2.length mc] 24)).alloc (.cells #[.int .i64 0] 3) = wq := ⟨_, rfl⟩
        rw [hwq]
        have szq : wq.heap.size = wr.heap.size + 2 := by rw [← hwq]; simp
        have bq : Below wr.heap.size wr wq := by rw [← hwq]; exact ((Below.refl _ _).alloc (Nat.le_refl _) _).alloc (by simp) _
        have qW : wq.heap[wr.heap.size]? = some (.cells #[.slice ma xs2.length mc] 24 (0, 0)) := by rw [← hwq, Below.heap_alloc _ _ _ (by simp)]; exact heap_alloc_new wr _
        have qK : wq.heap[wr.heap.size + 1]? = some (.cells #[.int .i64 0] 3 (0, 0)) := by
          have := heap_alloc_new (wr.alloc (.cells #[.slice ma xs2.length mc] 24)) (.cells #[.int .i64 0] 3)
          rw [hwq, World.size_alloc] at this
          exact this
        have hvlt := heap_lt hvb
        have hvb' := (bq.block _ hvlt).trans hvb
        have hvrow' := (Keeps.of_below (F := fun _ => False) bq).row hvrow (fun _ _ e => e)
        have rq := ownsRow_below mar bq
        have qTq := (bq.block _ (heap_lt htb)).trans htb
        have qNq := (bq.block _ (heap_lt qNr)).trans qNr
        have HFE := hid hfe
        clear hfe hy0
        have HQ := hid (And.intro qW (And.intro rq (And.intro qTq (And.intro qNq (And.intro hnd (And.intro hds (And.intro hbr bq)))))))
        have aft : ∀ {W : World}, Keeps (fun b => b = wr.heap.size + 1) wq W → W.heap[wq.heap.size]? = some (.deferred (some [])) →
            Below (w12.heap.size + 1) WL (W.alloc (.cells #[.int .i64 ((t + 1 : Nat) : Int)] 3)) ∧ (wq.heap.size :: ds).Nodup ∧ (∀ D ∈ wq.heap.size :: ds, w12.heap.size + 1 ≤ D ∧ (W.alloc (.cells #[.int .i64 ((t + 1 : Nat) : Int)] 3)).heap[D]? = some (.deferred (some []))) := by
          intro W hK hD
          have hz := hK.size
          refine ⟨Below.alloc ?_ (by omega) _, List.nodup_cons.2 ⟨fun hm => by have := heap_lt (hds _ hm).2; omega, hnd⟩, ?_⟩
          · refine (hbr.trans (bq.mono (by omega))).trans ⟨hK.os, hK.tape, hK.output, hK.size, fun k hk => hK.block k (by omega) (by omega)⟩
          · intro D hm
            rcases List.mem_cons.1 hm with rfl | hm
            · exact ⟨by omega, (Below.heap_alloc _ _ _ (heap_lt hD)).trans hD⟩
            · obtain ⟨d1, d2⟩ := hds D hm
              have hdl := heap_lt d2
              refine ⟨d1, (Below.heap_alloc _ _ _ (by omega)).trans ?_⟩
              rw [hK.block D (by omega) (by omega), bq.block D hdl]
              exact d2
        refine range_std 34 (gf := 136) (lb := #[ptr vb]) ?hg (enters_of Tryz.func136 (by kernel_rfl) rfl) (O := fun b => b = wr.heap.size + 1) (fun b e => by omega)
          (values1_ok hvb' hvrow' (by omega) (fun g e => by have := (hvrow.lt g e).2; omega) (by unfold lots; omega))
          (fun pre O3 W => O3 = (fun b => b = wr.heap.size + 1) ∧ W.heap[wr.heap.size + 1]? = some (.cells #[.int .i64 (pre.length : Int)] 3 (0, 0)) ∧ Stp (fun b => b = wr.heap.size + 1) O3 wq W)
          (fun cc pre O3 W => cc = .exit 2 ∧ t / 2 = 1 ∧ O3 = (fun b => b = wr.heap.size + 1) ∧ (∃ kk : Int, W.heap[wr.heap.size + 1]? = some (.cells #[.int .i64 kk] 3 (0, 0))) ∧ Stp (fun b => b = wr.heap.size + 1) O3 wq W)
          ?mI ?mIx ?h0 ?assign ?body ?done ?stop
        case mI =>
          rintro pre O3 X Y ⟨rfl, h2, h3⟩ hk
          exact ⟨rfl, by rw [hk.block _ (heap_lt h2) (fun e => e.1 rfl)]; exact h2, stp_mine (Nat.le_refl _) h3 hk⟩
        case mIx =>
          rintro cc pre O3 X Y ⟨h0, h1, rfl, ⟨kk, h2⟩, h3⟩ hk
          exact ⟨h0, h1, rfl, ⟨kk, by rw [hk.block _ (heap_lt h2) (fun e => e.1 rfl)]; exact h2⟩, stp_mine (Nat.le_refl _) h3 hk⟩
        case hg => exact HFE.out
        case h0 => exact ⟨rfl, qK, Stp.refl (fun b e => by omega)⟩
        case assign =>
          intro m l' y W K hK
          clear HR HQ HALL HX HMID HQ4 H10 H11 HL
          have z1 : ((t : Int) % 2 != 0) = true := by assumption
          have z2 : (yy2 != 0) = false := by assumption
          gi_wp2
          simpa only [z1, z2, List.setIfInBounds_toArray, List.set_cons_succ, List.set_cons_zero] using hK
        case body =>
          rintro m l' pre y O3 W hpre hO3 ⟨rfl, h2, h3⟩
          have hpl : pre.length + 1 ≤ xs2.length := by have := hpre.length_le; simpa using this
          have hxy : xs2[pre.length]? = some y := by
            obtain ⟨r, hr⟩ := hpre
            rw [← hr]; simp
          obtain ⟨g, hgm, hcell⟩ := slice_some rq (by omega)
          have hglt : g < wr.heap.size := by
            have := (mar.lt g (by rw [hgm]; rfl)).2
            exact this
          have cK : W.cell? ⟨wr.heap.size + 1, 0, none⟩ = some (.int .i64 (pre.length : Int)) := cell_of_heap h2 0
          have fK := frozen_of_heap h2 0
          have cW : W.cell? ⟨wr.heap.size, 0, none⟩ = some (.slice ma xs2.length mc) := h3.keeps.cell (cell_of_heap qW 0) (by simp)
          have cT2 : W.cell? ⟨tb, 0, none⟩ = some (.int .i64 (t : Int)) := h3.keeps.cell (cell_of_heap qTq 0) (by simp; omega)
          have cN2 : W.cell? ⟨w12.heap.size, 0, none⟩ = some (.int .i64 (N : Int)) := h3.keeps.cell (cell_of_heap qNq 0) (by simp; omega)
          have cE : W.cell? ⟨g, pre.length, none⟩ = some (.int .i64 (y : Int)) := by
            have h5 := hcell pre.length (.int .i64 (y : Int)) (by simp [intsV, hxy])
            rw [Addr.add_lit, Nat.zero_add] at h5
            exact h3.keeps.cell h5 (by simp; omega)
          have hplI : (pre.length : Int) < xs2.length := by omega
          have hpl2 : ¬ (xs2.length : Int) ≤ pre.length := by omega
          have hx2' : xs2.length ≤ 40 := hx2
          subst hgm
          have HB := hid (And.intro h2 (And.intro h3 hO3))
          clear HR HQ HALL HX HMID HQ4 H10 H11 HL h2 h3 hO3 hpre hxy hcell qW rq qTq qNq hvb hvrow hvb' hvrow' qK far lar mar hnd hds htb hbr qNr cT cN eq1 eq2 gd bq HFE
          have fin : ∀ W', W' = W.setCell ⟨wr.heap.size + 1, 0, none⟩ (.int .i64 ((pre.length + 1 : Nat) : Int)) → Stp (fun b => b = wr.heap.size + 1) (fun b => b = wr.heap.size + 1) W W' ∧ W'.heap[wr.heap.size + 1]? = some (.cells #[.int .i64 ((pre.length + 1 : Nat) : Int)] 3 (0, 0)) ∧ Stp (fun b => b = wr.heap.size + 1) (fun b => b = wr.heap.size + 1) wq W' := by
            rintro W' rfl
            obtain ⟨h2, h3, hO3⟩ := HB.out
            have hs : Stp (fun b => b = wr.heap.size + 1) (fun b => b = wr.heap.size + 1) W (W.setCell ⟨wr.heap.size + 1, 0, none⟩ (.int .i64 ((pre.length + 1 : Nat) : Int))) :=
              ⟨(Keeps.refl (fun b => b = wr.heap.size + 1) W).setCell (p := ⟨wr.heap.size + 1, 0, none⟩) (.inl rfl) _, fun b e => .inl e, fun b e => by have := hO3 b e; simpa [World.setCell] using this⟩
            exact ⟨hs, by rw [heap_setCell_same W _ 0 _ _ _ h2]; rfl, h3.trans hs⟩
          have FIN := hid fin
          clear fin HB
          by_cases h21 : t / 2 = 1
          · have hq1 : (t : Int) / 2 = 1 := by omega
            by_cases hNk : N < pre.length + 1
            · have hNI : (N : Int) < (pre.length : Int) + 1 := by omega
              gi_wp2
              obtain ⟨e1, e2, e3⟩ := FIN.out _ rfl
              first | exact ⟨_, e1, rfl, rfl, ⟨_, e2⟩, e3⟩ | exact ⟨_, e1, rfl, h21, rfl, ⟨_, e2⟩, e3⟩ | exact ⟨_, e1, rfl, ⟨_, e2⟩, e3⟩
            · have hNI : ¬ (N : Int) < (pre.length : Int) + 1 := by omega
              gi_wp2
              obtain ⟨e1, e2, e3⟩ := FIN.out _ rfl
              exact ⟨_, e1, rfl, by rw [List.length_append]; exact e2, e3⟩
          · have hq1 : ¬ (t : Int) / 2 = 1 := by omega
            have hq2 : ((t : Int) / 2 == 1) = false := by simp; omega
            gi_wp2
            obtain ⟨e1, e2, e3⟩ := FIN.out _ rfl
            exact ⟨_, e1, rfl, by rw [List.length_append]; exact e2, e3⟩
        case done =>
          rintro O5 W st5 hn5 ⟨rfl, h2, h3⟩ hD5
          have cK : W.cell? ⟨wr.heap.size + 1, 0, none⟩ = some (.int .i64 (xs2.length : Int)) := cell_of_heap h2 0
          have cW : W.cell? ⟨wr.heap.size, 0, none⟩ = some (.slice ma xs2.length mc) := h3.keeps.cell (cell_of_heap qW 0) (by simp)
          have cT2 : W.cell? ⟨tb, 0, none⟩ = some (.int .i64 (t : Int)) := h3.keeps.cell (cell_of_heap qTq 0) (by simp; omega)
          have sz5 := h3.keeps.size
          have AFT := hid (aft h3.keeps hD5)
          have HZ := hid szq
          clear szq
          clear HR HALL HX HMID HQ4 H10 H11 HL h2 h3 hD5 st5 hn5 qW rq qTq qNq hvb hvrow hvb' hvrow' qK far lar mar hnd hds hbr qNr cT cN eq1 eq2 gd bq HFE
          gi_wp2_with fail
          all_goals
            obtain ⟨a1, a2, a3⟩ := AFT.out
            have szq := HZ.out
            have q2 := heap_alloc_new W (.cells #[.int .i64 ((t + 1 : Nat) : Int)] 3)
            exact ⟨WalksInv.of _ _ _ _ _ _ _ _ _ _ _ _ _ _ _ _ _ _ _ _ _ _ _ _ (t + 1) W.heap.size (wq.heap.size :: ds) (by omega) rfl ⟨q2, by omega, a1, a2, a3⟩,
              Nat.lt_of_le_of_lt (Nat.le_of_eq (turnsLeft_eq (t := t + 1) (tb := W.heap.size) rfl q2)) (Nat.lt_of_lt_of_le (show 6 - (t + 1) < 6 - t by omega) (Nat.le_of_eq (turnsLeft_eq (t := t) (tb := tb) rfl htb).symm))⟩
        case stop =>
          rintro cc O5 pre W hpre st5 hn5 ⟨rfl, h2t, rfl, ⟨kk, h2⟩, h3⟩ hD5
          have cK : W.cell? ⟨wr.heap.size + 1, 0, none⟩ = some (.int .i64 kk) := cell_of_heap h2 0
          have cW : W.cell? ⟨wr.heap.size, 0, none⟩ = some (.slice ma xs2.length mc) := h3.keeps.cell (cell_of_heap qW 0) (by simp)
          have cT2 : W.cell? ⟨tb, 0, none⟩ = some (.int .i64 (t : Int)) := h3.keeps.cell (cell_of_heap qTq 0) (by simp; omega)
          have sz5 := h3.keeps.size
          have hq1 : (t : Int) / 2 = 1 := by omega
          have AFT := hid (aft h3.keeps hD5)
          have HZ := hid szq
          clear szq
          clear HR HALL HX HMID HQ4 H10 H11 HL h2 h3 hD5 st5 hn5 qW rq qTq qNq hvb hvrow hvb' hvrow' qK far lar mar hnd hds hbr qNr cT cN eq1 eq2 gd bq HFE
          gi_wp2_with fail
          all_goals
            obtain ⟨a1, a2, a3⟩ := AFT.out
            have szq := HZ.out
            have q2 := heap_alloc_new W (.cells #[.int .i64 ((t + 1 : Nat) : Int)] 3)
            exact ⟨WalksInv.of _ _ _ _ _ _ _ _ _ _ _ _ _ _ _ _ _ _ _ _ _ _ _ _ (t + 1) W.heap.size (wq.heap.size :: ds) (by omega) rfl ⟨q2, by omega, a1, a2, a3⟩,
              Nat.lt_of_le_of_lt (Nat.le_of_eq (turnsLeft_eq (t := t + 1) (tb := W.heap.size) rfl q2)) (Nat.lt_of_lt_of_le (show 6 - (t + 1) < 6 - t by omega) (Nat.le_of_eq (turnsLeft_eq (t := t) (tb := tb) rfl htb).symm))⟩
      · -- the first one gives nothing
        obtain ⟨far, fbr, lar, mar, hnd, hds, htb, hbr, qNr⟩ := HR.out
        have q2 := heap_alloc_new (wr.alloc (.cells #[.slice la xs1.length lc] 24)) (.cells #[.int .i64 ((t + 1 : Nat) : Int)] 3)
        rw [World.size_alloc] at q2
        refine ⟨WalksInv.of _ _ _ _ _ _ _ _ _ _ _ _ _ _ _ _ _ _ _ _ _ _ _ _ (t + 1) (wr.heap.size + 1) ds (by omega) rfl ⟨q2, by omega, ?_, hnd, ?_⟩, ?_⟩
        · exact (hbr.alloc (by omega) _).alloc (by simp; omega) _
        · intro D hm
          have h1 := hds D hm
          exact ⟨h1.1, (Below.heap_alloc _ _ _ (by have := heap_lt h1.2; simp; omega)).trans ((Below.heap_alloc _ _ _ (heap_lt h1.2)).trans h1.2)⟩
        · exact Nat.lt_of_le_of_lt (Nat.le_of_eq (turnsLeft_eq (t := t + 1) (tb := wr.heap.size + 1) rfl q2)) (Nat.lt_of_lt_of_le (show 6 - (t + 1) < 6 - t by omega) (Nat.le_of_eq (turnsLeft_eq (t := t) (tb := tb) rfl htb).symm))
      · -- the first one is gone through
        have hy0 : yy1 = 0 := by
          have hz : (yy1 != 0) = false := by assumption
          simpa using hz
        obtain ⟨far, fbr, lar, mar, hnd, hds, htb, hbr, qNr⟩ := HR.out
        rcases far with ⟨hy, _⟩ | ⟨hyz, hWk⟩
        · omega
        clear hyz
        obtain ⟨vb, va, vc, hfe, hvb, hvrow, hvP, hvg⟩ := hWk
        obtain ⟨wq, hwq⟩ : ∃ wq, (wr.alloc (.cells #[.slice la xs1.length lc] 24)).alloc (.cells #[.int .i64 0] 3) = wq := ⟨_, rfl⟩
        rw [hwq]
        have szq : wq.heap.size = wr.heap.size + 2 := by rw [← hwq]; simp
        have bq : Below wr.heap.size wr wq := by rw [← hwq]; exact ((Below.refl _ _).alloc (Nat.le_refl _) _).alloc (by simp) _
        have qW : wq.heap[wr.heap.size]? = some (.cells #[.slice la xs1.length lc] 24 (0, 0)) := by rw [← hwq, Below.heap_alloc _ _ _ (by simp)]; exact heap_alloc_new wr _
        have qK : wq.heap[wr.heap.size + 1]? = some (.cells #[.int .i64 0] 3 (0, 0)) := by
          have := heap_alloc_new (wr.alloc (.cells #[.slice la xs1.length lc] 24)) (.cells #[.int .i64 0] 3)
          rw [hwq, World.size_alloc] at this
          exact this
        have hvlt := heap_lt hvb
        have hvb' := (bq.block _ hvlt).trans hvb
        have hvrow' := (Keeps.of_below (F := fun _ => False) bq).row hvrow (fun _ _ e => e)
        have rq := ownsRow_below lar bq
        have qTq := (bq.block _ (heap_lt htb)).trans htb
        have qNq := (bq.block _ (heap_lt qNr)).trans qNr
        have HFE := hid hfe
        clear hfe hy0
        have HQ := hid (And.intro qW (And.intro rq (And.intro qTq (And.intro qNq (And.intro hnd (And.intro hds (And.intro hbr bq)))))))
        have aft : ∀ {W : World}, Keeps (fun b => b = wr.heap.size + 1) wq W → W.heap[wq.heap.size]? = some (.deferred (some [])) →
            Below (w12.heap.size + 1) WL (W.alloc (.cells #[.int .i64 ((t + 1 : Nat) : Int)] 3)) ∧ (wq.heap.size :: ds).Nodup ∧ (∀ D ∈ wq.heap.size :: ds, w12.heap.size + 1 ≤ D ∧ (W.alloc (.cells #[.int .i64 ((t + 1 : Nat) : Int)] 3)).heap[D]? = some (.deferred (some []))) := by
          intro W hK hD
          have hz := hK.size
          refine ⟨Below.alloc ?_ (by omega) _, List.nodup_cons.2 ⟨fun hm => by have := heap_lt (hds _ hm).2; omega, hnd⟩, ?_⟩
          · refine (hbr.trans (bq.mono (by omega))).trans ⟨hK.os, hK.tape, hK.output, hK.size, fun k hk => hK.block k (by omega) (by omega)⟩
          · intro D hm
            rcases List.mem_cons.1 hm with rfl | hm
            · exact ⟨by omega, (Below.heap_alloc _ _ _ (heap_lt hD)).trans hD⟩
            · obtain ⟨d1, d2⟩ := hds D hm
              have hdl := heap_lt d2
              refine ⟨d1, (Below.heap_alloc _ _ _ (by omega)).trans ?_⟩
              rw [hK.block D (by omega) (by omega), bq.block D hdl]
              exact d2
        refine range_std 34 (gf := 136) (lb := #[ptr vb]) ?hg (enters_of Tryz.func136 (by kernel_rfl) rfl) (O := fun b => b = wr.heap.size + 1) (fun b e => by omega)
          (values1_ok hvb' hvrow' (by omega) (fun g e => by have := (hvrow.lt g e).2; omega) (by unfold lots; omega))
          (fun pre O3 W => O3 = (fun b => b = wr.heap.size + 1) ∧ W.heap[wr.heap.size + 1]? = some (.cells #[.int .i64 (pre.length : Int)] 3 (0, 0)) ∧ Stp (fun b => b = wr.heap.size + 1) O3 wq W)
          (fun cc pre O3 W => cc = .exit 2 ∧ t / 2 = 1 ∧ O3 = (fun b => b = wr.heap.size + 1) ∧ (∃ kk : Int, W.heap[wr.heap.size + 1]? = some (.cells #[.int .i64 kk] 3 (0, 0))) ∧ Stp (fun b => b = wr.heap.size + 1) O3 wq W)
          ?mI ?mIx ?h0 ?assign ?body ?done ?stop
        case mI =>
          rintro pre O3 X Y ⟨rfl, h2, h3⟩ hk
          exact ⟨rfl, by rw [hk.block _ (heap_lt h2) (fun e => e.1 rfl)]; exact h2, stp_mine (Nat.le_refl _) h3 hk⟩
        case mIx =>
          rintro cc pre O3 X Y ⟨h0, h1, rfl, ⟨kk, h2⟩, h3⟩ hk
          exact ⟨h0, h1, rfl, ⟨kk, by rw [hk.block _ (heap_lt h2) (fun e => e.1 rfl)]; exact h2⟩, stp_mine (Nat.le_refl _) h3 hk⟩
        case hg => exact HFE.out
        case h0 => exact ⟨rfl, qK, Stp.refl (fun b e => by omega)⟩
        case assign =>
          intro m l' y W K hK
          clear HR HQ HALL HX HMID HQ4 H10 H11 HL
          have z1 : ((t : Int) % 2 != 0) = false := by assumption
          have z2 : (yy1 != 0) = false := by assumption
          gi_wp2
          simpa only [z1, z2, List.setIfInBounds_toArray, List.set_cons_succ, List.set_cons_zero] using hK
        case body =>
          rintro m l' pre y O3 W hpre hO3 ⟨rfl, h2, h3⟩
          have hpl : pre.length + 1 ≤ xs1.length := by have := hpre.length_le; simpa using this
          have hxy : xs1[pre.length]? = some y := by
            obtain ⟨r, hr⟩ := hpre
            rw [← hr]; simp
          obtain ⟨g, hgm, hcell⟩ := slice_some rq (by omega)
          have hglt : g < wr.heap.size := by
            have := (lar.lt g (by rw [hgm]; rfl)).2
            exact this
          have cK : W.cell? ⟨wr.heap.size + 1, 0, none⟩ = some (.int .i64 (pre.length : Int)) := cell_of_heap h2 0
          have fK := frozen_of_heap h2 0
          have cW : W.cell? ⟨wr.heap.size, 0, none⟩ = some (.slice la xs1.length lc) := h3.keeps.cell (cell_of_heap qW 0) (by simp)
          have cT2 : W.cell? ⟨tb, 0, none⟩ = some (.int .i64 (t : Int)) := h3.keeps.cell (cell_of_heap qTq 0) (by simp; omega)
          have cN2 : W.cell? ⟨w12.heap.size, 0, none⟩ = some (.int .i64 (N : Int)) := h3.keeps.cell (cell_of_heap qNq 0) (by simp; omega)
          have cE : W.cell? ⟨g, pre.length, none⟩ = some (.int .i64 (y : Int)) := by
            have h5 := hcell pre.length (.int .i64 (y : Int)) (by simp [intsV, hxy])
            rw [Addr.add_lit, Nat.zero_add] at h5
            exact h3.keeps.cell h5 (by simp; omega)
          have hplI : (pre.length : Int) < xs1.length := by omega
          have hpl2 : ¬ (xs1.length : Int) ≤ pre.length := by omega
          have hx1' : xs1.length ≤ 40 := hx1
          subst hgm
          have HB := hid (And.intro h2 (And.intro h3 hO3))
          clear HR HQ HALL HX HMID HQ4 H10 H11 HL h2 h3 hO3 hpre hxy hcell qW rq qTq qNq hvb hvrow hvb' hvrow' qK fbr lar mar hnd hds htb hbr qNr cT cN eq1 eq2 gd bq HFE
          have fin : ∀ W', W' = W.setCell ⟨wr.heap.size + 1, 0, none⟩ (.int .i64 ((pre.length + 1 : Nat) : Int)) → Stp (fun b => b = wr.heap.size + 1) (fun b => b = wr.heap.size + 1) W W' ∧ W'.heap[wr.heap.size + 1]? = some (.cells #[.int .i64 ((pre.length + 1 : Nat) : Int)] 3 (0, 0)) ∧ Stp (fun b => b = wr.heap.size + 1) (fun b => b = wr.heap.size + 1) wq W' := by
            rintro W' rfl
            obtain ⟨h2, h3, hO3⟩ := HB.out
            have hs : Stp (fun b => b = wr.heap.size + 1) (fun b => b = wr.heap.size + 1) W (W.setCell ⟨wr.heap.size + 1, 0, none⟩ (.int .i64 ((pre.length + 1 : Nat) : Int))) :=
              ⟨(Keeps.refl (fun b => b = wr.heap.size + 1) W).setCell (p := ⟨wr.heap.size + 1, 0, none⟩) (.inl rfl) _, fun b e => .inl e, fun b e => by have := hO3 b e; simpa [World.setCell] using this⟩
            exact ⟨hs, by rw [heap_setCell_same W _ 0 _ _ _ h2]; rfl, h3.trans hs⟩
          have FIN := hid fin
          clear fin HB
          by_cases h21 : t / 2 = 1
          · have hq1 : (t : Int) / 2 = 1 := by omega
            by_cases hNk : N < pre.length + 1
            · have hNI : (N : Int) < (pre.length : Int) + 1 := by omega
              gi_wp2
              obtain ⟨e1, e2, e3⟩ := FIN.out _ rfl
              first | exact ⟨_, e1, rfl, rfl, ⟨_, e2⟩, e3⟩ | exact ⟨_, e1, rfl, h21, rfl, ⟨_, e2⟩, e3⟩ | exact ⟨_, e1, rfl, ⟨_, e2⟩, e3⟩
            · have hNI : ¬ (N : Int) < (pre.length : Int) + 1 := by omega
              gi_wp2
              obtain ⟨e1, e2, e3⟩ := FIN.out _ rfl
              exact ⟨_, e1, rfl, by rw [List.length_append]; exact e2, e3⟩
          · have hq1 : ¬ (t : Int) / 2 = 1 := by omega
            have hq2 : ((t : Int) / 2 == 1) = false := by simp; omega
            gi_wp2
            obtain ⟨e1, e2, e3⟩ := FIN.out _ rfl
            exact ⟨_, e1, rfl, by rw [List.length_append]; exact e2, e3⟩
        case done =>
          rintro O5 W st5 hn5 ⟨rfl, h2, h3⟩ hD5
          have cK : W.cell? ⟨wr.heap.size + 1, 0, none⟩ = some (.int .i64 (xs1.length : Int)) := cell_of_heap h2 0
          have cW : W.cell? ⟨wr.heap.size, 0, none⟩ = some (.slice la xs1.length lc) := h3.keeps.cell (cell_of_heap qW 0) (by simp)
          have cT2 : W.cell? ⟨tb, 0, none⟩ = some (.int .i64 (t : Int)) := h3.keeps.cell (cell_of_heap qTq 0) (by simp; omega)
          have sz5 := h3.keeps.size
          have AFT := hid (aft h3.keeps hD5)
          have HZ := hid szq
          clear szq
          clear HR HALL HX HMID HQ4 H10 H11 HL h2 h3 hD5 st5 hn5 qW rq qTq qNq hvb hvrow hvb' hvrow' qK fbr lar mar hnd hds hbr qNr cT cN eq1 eq2 gd bq HFE
          gi_wp2_with fail
          all_goals
            obtain ⟨a1, a2, a3⟩ := AFT.out
            have szq := HZ.out
            have q2 := heap_alloc_new W (.cells #[.int .i64 ((t + 1 : Nat) : Int)] 3)
            exact ⟨WalksInv.of _ _ _ _ _ _ _ _ _ _ _ _ _ _ _ _ _ _ _ _ _ _ _ _ (t + 1) W.heap.size (wq.heap.size :: ds) (by omega) rfl ⟨q2, by omega, a1, a2, a3⟩,
              Nat.lt_of_le_of_lt (Nat.le_of_eq (turnsLeft_eq (t := t + 1) (tb := W.heap.size) rfl q2)) (Nat.lt_of_lt_of_le (show 6 - (t + 1) < 6 - t by omega) (Nat.le_of_eq (turnsLeft_eq (t := t) (tb := tb) rfl htb).symm))⟩
        case stop =>
          rintro cc O5 pre W hpre st5 hn5 ⟨rfl, h2t, rfl, ⟨kk, h2⟩, h3⟩ hD5
          have cK : W.cell? ⟨wr.heap.size + 1, 0, none⟩ = some (.int .i64 kk) := cell_of_heap h2 0
          have cW : W.cell? ⟨wr.heap.size, 0, none⟩ = some (.slice la xs1.length lc) := h3.keeps.cell (cell_of_heap qW 0) (by simp)
          have cT2 : W.cell? ⟨tb, 0, none⟩ = some (.int .i64 (t : Int)) := h3.keeps.cell (cell_of_heap qTq 0) (by simp; omega)
          have sz5 := h3.keeps.size
          have hq1 : (t : Int) / 2 = 1 := by omega
          have AFT := hid (aft h3.keeps hD5)
          have HZ := hid szq
          clear szq
          clear HR HALL HX HMID HQ4 H10 H11 HL h2 h3 hD5 st5 hn5 qW rq qTq qNq hvb hvrow hvb' hvrow' qK fbr lar mar hnd hds hbr qNr cT cN eq1 eq2 gd bq HFE
          gi_wp2_with fail
          all_goals
            obtain ⟨a1, a2, a3⟩ := AFT.out
            have szq := HZ.out
            have q2 := heap_alloc_new W (.cells #[.int .i64 ((t + 1 : Nat) : Int)] 3)
            exact ⟨WalksInv.of _ _ _ _ _ _ _ _ _ _ _ _ _ _ _ _ _ _ _ _ _ _ _ _ (t + 1) W.heap.size (wq.heap.size :: ds) (by omega) rfl ⟨q2, by omega, a1, a2, a3⟩,
              Nat.lt_of_le_of_lt (Nat.le_of_eq (turnsLeft_eq (t := t + 1) (tb := W.heap.size) rfl q2)) (Nat.lt_of_lt_of_le (show 6 - (t + 1) < 6 - t by omega) (Nat.le_of_eq (turnsLeft_eq (t := t) (tb := tb) rfl htb).symm))⟩
    · obtain rfl : t = 6 := by omega
      have hfin : ∃ Q3 : Nat → Prop, InvE PD Q3 wr wr (w.heap.size + 1) docs11 ∧ Keeps Q2 w10 wr ∧ (∀ b, Q3 b → Q2 b) ∧ (∀ b, w12.heap.size ≤ b → b < wr.heap.size → ¬ Q3 b) :=
        hI11.rebase HALL.out.1.pd (Keeps.of_below bwr) (fun psv h => h.below bwr)
      obtain ⟨Q3, hI3, hK3, hQ3, hN3⟩ := hfin
      have K0r : Keeps Q0 W0 wr := K011.trans (Keeps.of_below bwr)
      have C10 := ptrees_scr HALL.out.1 HALL.out.2.2.2.2.1 (fun W hK => hG2 W (hK3.trans (hK.mono (fun k _ e => .inl (hQ3 k e))))) (HX.out.2.2.2.2.2 wr K0r).1 (fun hg e => by have := hQ02 _ (hQ3 _ e); omega) hI3 (by rw [hl11]; unfold lots; decide)
      have HC10 := hid C10
      have HF := hid (And.intro K0r (And.intro hQ3 (And.intro hN3 (And.intro hQ02 (And.intro hnd (And.intro hds htS))))))
      clear C10 hI3 hK3 hQ3 hN3 hI11 K011 fa11 fb11 la11 ma11 hG2 hbw10 hQ02 k1011 bL qN qT bwr qNr K0r hnd hds hbr htb cN
      gi_wp2_with fail
      refine ⟨trivial, (callsIn_wide.2 HC10.out).mono ?_⟩
      clear HC10
      rintro e w13 ⟨rfl, docs13, hI13, hl13⟩
      obtain ⟨K0r, hQ3, hN3, hQ02, hnd, hds, htS⟩ := HF.out
      have k13 : Keeps Q3 wr w13 := by obtain ⟨own, psv, hI⟩ := hI13; exact hI.fr
      have K013 : Keeps Q0 W0 w13 := K0r.trans (k13.mono (fun k _ e => .inl (by rw [hQ0]; exact hQ02 k (hQ3 k e))))
      obtain ⟨hb13, hr13⟩ := HX.out.2.2.2.2.2 w13 K013
      have cr : w13.cell? ⟨w.heap.size, 0, none⟩ = some (.bool false) := cell_of_heap hr13 0
      have fr := frozen_of_heap hr13 0
      have HE := hid (And.intro k13 (And.intro hb13 (And.intro hr13 (And.intro hN3 (And.intro hnd hds)))))
      clear k13 K013 hb13 hr13 hI13 hQ3 hN3 hQ02 hnd hds K0r HF cT
      gi_wp2_with fail
      obtain ⟨k13, hb13, hr13, hN3, hnd, hds⟩ := HE.out
      have hlr : w.heap.size < w12.heap.size := by omega
      refine leaves_marks ds _ hnd (fun D hm => ?_) (fun w' hk' => ⟨.bool true, ?_, rfl, ?_⟩)
      · have h1 := hds D hm
        rw [Below.heap_setCell _ _ _ _ (by simp; omega), k13.block D (heap_lt h1.2) (hN3 D (by omega) (heap_lt h1.2))]
        exact h1.2
      · have hh := heap_setCell_same w13 _ 0 _ _ (.bool true) hr13
        have hc : w'.cell? ⟨w.heap.size, 0, none⟩ = some (.bool true) := hk'.cell (cell_of_heap hh 0) (fun e => by have := (hds _ e).1; simp at this; omega)
        simp [results, Tryz.f4, go_sem, hc]
      · have k1 : Keeps (fun _ => False) w w13 := Keeps.of_below hb13
        exact ((k1.setCell (p := ⟨w.heap.size, 0, none⟩) (.inr (by simp)) _).trans (hk'.mono (fun b _ e => .inr (by have := (hds b e).1; omega)))).below

end Go.Proofs.YtabogkonklplcaaGreatDoor
