import Derived.Test.YtabogkonklplcaaGreatDoorC13
import Derived.Test.YtabogkonklplcaaGreatDoorC14
import Derived.Test.YtabogkonklplcaaGreatDoorC39
import Derived.Test.YtabogkonklplcaaGreatDoorC48
import Derived.Test.YtabogkonklplcaaGreatDoorC54

/- marginlaw's texts: one call of Replace, Split, Compare on both documents; its step. -/
namespace Go.Proofs.YtabogkonklplcaaGreatDoor
open Go.RowKit
set_option linter.unusedSimpArgs false
set_option linter.unusedVariables false

section
variable {PD : PDT} {G : World → Prop} {FP FR : Nat → Prop} {w : World} {yb bx bd : Nat} {psv : Value} {s : St}

set_option maxRecDepth 20000 in
set_option maxHeartbeats 4000000 in
theorem texts_replace (hPD : PDOk PD) (hGB : ∀ w w', G w → Below w.heap.size w w' → G w') (hA : PairAt PD FP FR w yb bx bd psv s) (hg : G w)
    (D A B C : Int) (S : ByteArray) (p0 p1 q0 q1 : Int) (h : Ans PD G s 34 78 [.int .i64 A, .int .i64 B, .int .i64 C, .string S] (fun v => v) (fun v => v)) :
    Calls Tryz.prog 43 #[ptr yb, .agg #[ptr bx, ptr bd], opV 7 D A B C S p0 p1 q0 q1] w (PairPost PD FP FR w yb bx bd psv) := by
  obtain ⟨a, y, s', hwf, hp, hr⟩ := h
  have hB := boxed2_below w bx bd 7 D A B C S p0 p1 q0 q1
  have hbp := boxed2_pair w bx bd 7 D A B C S p0 p1 q0 q1
  have hbo := boxed2_op w bx bd 7 D A B C S p0 p1 q0 q1
  have CP := hid (hp (boxed2 w bx bd 7 D A B C S p0 p1 q0 q1) FP bx (hGB _ _ hg hB) (hPD.keeps hA.pd (Keeps.of_below (F := fun _ => False) hB) (fun _ _ e => e)))
  have HB := hid hB
  have HBP := hid hbp
  have HBO := hid hbo
  have HR := hid hr
  have HA := hid hA
  have HPD := hid hPD
  have HWF := hid hwf
  clear hp hr hB hbp hbo hA hPD hwf hg hGB
  go_enter Tryz.func43, Tryz.ntmps43
  go_wp2_with (first
    | (go_at_call 34
       refine CP.out.mono ?_
       clear CP
       rintro e w1 ⟨rfl, k1, d1⟩
       have hp1 := HA.out.old k1 (Nat.le_refl _) HBP.out
       have ho1 := HA.out.old k1 (Nat.le_succ _) HBO.out
       have c10 : w1.cell? ⟨w.heap.size, 0, none⟩ = some (ptr bx) := cell_of_heap hp1 0
       have c11 : w1.cell? ⟨w.heap.size, 1, none⟩ = some (ptr bd) := cell_of_heap hp1 1
       have c22 : w1.cell? ⟨w.heap.size + 1, 2, none⟩ = some (.int .i64 A) := cell_of_heap ho1 2
       have c23 : w1.cell? ⟨w.heap.size + 1, 3, none⟩ = some (.int .i64 B) := cell_of_heap ho1 3
       have c24 : w1.cell? ⟨w.heap.size + 1, 4, none⟩ = some (.int .i64 C) := cell_of_heap ho1 4
       have c25 : w1.cell? ⟨w.heap.size + 1, 5, none⟩ = some (.string S) := cell_of_heap ho1 5
       have CR := hid (HR.out w1 FR bd (HA.out.ref HB.out k1))
       have K1 := hid k1
       have D1 := hid d1
       clear k1 d1 hp1 ho1)
    | (go_at_call 78
       refine CR.out.mono ?_
       clear CR
       rintro e w2 ⟨rfl, k2, r2⟩
       have PL := hid (HA.out.play2 HB.out K1.out k2)
       have K2 := hid k2
       have R2 := hid r2
       clear k2 r2)
    | (go_at_call 20
       obtain ⟨l0, a0, y0, hq⟩ := PL.out
       refine (las_any yb psv l0 a0 y0 a y w2 hq).mono ?_
       rintro e w4 ⟨rfl, k4, hq4⟩
       have K4 := hid k4
       have Q4 := hid hq4
       clear k4 hq4 hq))
  go_ret
  exact pair_close HPD.out HA.out HWF.out HB.out K1.out D1.out K2.out R2.out K4.out ⟨_, _, _, Q4.out⟩

set_option maxRecDepth 20000 in
set_option maxHeartbeats 4000000 in
theorem texts_split (hPD : PDOk PD) (hGB : ∀ w w', G w → Below w.heap.size w w' → G w') (hA : PairAt PD FP FR w yb bx bd psv s) (hg : G w)
    (D A B C : Int) (S : ByteArray) (p0 p1 q0 q1 : Int) (h : ∃ n : Int, Ans PD G s 30 79 [.int .i64 A, .int .i64 B] (fun v => .tuple #[.int .i64 n, v]) (fun v => .tuple #[.int .i64 n, v])) :
    Calls Tryz.prog 43 #[ptr yb, .agg #[ptr bx, ptr bd], opV 8 D A B C S p0 p1 q0 q1] w (PairPost PD FP FR w yb bx bd psv) := by
  obtain ⟨n, a, y, s', hwf, hp, hr⟩ := h
  have hB := boxed2_below w bx bd 8 D A B C S p0 p1 q0 q1
  have hbp := boxed2_pair w bx bd 8 D A B C S p0 p1 q0 q1
  have hbo := boxed2_op w bx bd 8 D A B C S p0 p1 q0 q1
  have CP := hid (hp (boxed2 w bx bd 8 D A B C S p0 p1 q0 q1) FP bx (hGB _ _ hg hB) (hPD.keeps hA.pd (Keeps.of_below (F := fun _ => False) hB) (fun _ _ e => e)))
  have HB := hid hB
  have HBP := hid hbp
  have HBO := hid hbo
  have HR := hid hr
  have HA := hid hA
  have HPD := hid hPD
  have HWF := hid hwf
  clear hp hr hB hbp hbo hA hPD hwf hg hGB
  go_enter Tryz.func43, Tryz.ntmps43
  go_wp2_with (first
    | (go_at_call 30
       refine CP.out.mono ?_
       clear CP
       rintro e w1 ⟨rfl, k1, d1⟩
       have hp1 := HA.out.old k1 (Nat.le_refl _) HBP.out
       have ho1 := HA.out.old k1 (Nat.le_succ _) HBO.out
       have c10 : w1.cell? ⟨w.heap.size, 0, none⟩ = some (ptr bx) := cell_of_heap hp1 0
       have c11 : w1.cell? ⟨w.heap.size, 1, none⟩ = some (ptr bd) := cell_of_heap hp1 1
       have c22 : w1.cell? ⟨w.heap.size + 1, 2, none⟩ = some (.int .i64 A) := cell_of_heap ho1 2
       have c23 : w1.cell? ⟨w.heap.size + 1, 3, none⟩ = some (.int .i64 B) := cell_of_heap ho1 3
       have c24 : w1.cell? ⟨w.heap.size + 1, 4, none⟩ = some (.int .i64 C) := cell_of_heap ho1 4
       have c25 : w1.cell? ⟨w.heap.size + 1, 5, none⟩ = some (.string S) := cell_of_heap ho1 5
       have CR := hid (HR.out w1 FR bd (HA.out.ref HB.out k1))
       have K1 := hid k1
       have D1 := hid d1
       clear k1 d1 hp1 ho1)
    | (go_at_call 79
       refine CR.out.mono ?_
       clear CR
       rintro e w2 ⟨rfl, k2, r2⟩
       have PL := hid (HA.out.play2 HB.out K1.out k2)
       have K2 := hid k2
       have R2 := hid r2
       clear k2 r2)
    | (go_at_call 20
       obtain ⟨l0, a0, y0, hq⟩ := PL.out
       refine (las_any yb psv l0 a0 y0 a y (w2.alloc (.cells #[.int .i64 a, .int .i64 y] 32)) ((Below.heap_alloc _ _ _ (heap_lt hq)).trans hq)).mono ?_
       rintro e w4 ⟨rfl, k4, hq4⟩
       have K4 := hid k4
       have Q4 := hid hq4
       clear k4 hq4 hq))
  go_ret
  exact pair_close HPD.out HA.out HWF.out HB.out K1.out D1.out K2.out R2.out ((((Keeps.refl (fun b => b = yb) w2).alloc _)).trans (K4.out.mono (fun k _ e => .inl e))) ⟨_, _, _, Q4.out⟩

set_option maxRecDepth 20000 in
set_option maxHeartbeats 4000000 in
theorem texts_compare (hPD : PDOk PD) (hGB : ∀ w w', G w → Below w.heap.size w w' → G w') (hA : PairAt PD FP FR w yb bx bd psv s) (hg : G w)
    (D A B C : Int) (S : ByteArray) (p0 p1 q0 q1 : Int) (h : ∃ n : Int, Ans PD G s 26 80 [.agg #[.int .i64 p0, .int .i64 p1], .agg #[.int .i64 q0, .int .i64 q1]] (fun v => .tuple #[.int .i64 n, v]) (fun v => .tuple #[.int .i64 n, v])) :
    Calls Tryz.prog 43 #[ptr yb, .agg #[ptr bx, ptr bd], opV 9 D A B C S p0 p1 q0 q1] w (PairPost PD FP FR w yb bx bd psv) := by
  obtain ⟨n, a, y, s', hwf, hp, hr⟩ := h
  have hB := boxed2_below w bx bd 9 D A B C S p0 p1 q0 q1
  have hbp := boxed2_pair w bx bd 9 D A B C S p0 p1 q0 q1
  have hbo := boxed2_op w bx bd 9 D A B C S p0 p1 q0 q1
  have CP := hid (hp (boxed2 w bx bd 9 D A B C S p0 p1 q0 q1) FP bx (hGB _ _ hg hB) (hPD.keeps hA.pd (Keeps.of_below (F := fun _ => False) hB) (fun _ _ e => e)))
  have HB := hid hB
  have HBP := hid hbp
  have HBO := hid hbo
  have HR := hid hr
  have HA := hid hA
  have HPD := hid hPD
  have HWF := hid hwf
  clear hp hr hB hbp hbo hA hPD hwf hg hGB
  go_enter Tryz.func43, Tryz.ntmps43
  go_wp2_with (first
    | (go_at_call 26
       refine CP.out.mono ?_
       clear CP
       rintro e w1 ⟨rfl, k1, d1⟩
       have hp1 := HA.out.old k1 (Nat.le_refl _) HBP.out
       have ho1 := HA.out.old k1 (Nat.le_succ _) HBO.out
       have c10 : w1.cell? ⟨w.heap.size, 0, none⟩ = some (ptr bx) := cell_of_heap hp1 0
       have c11 : w1.cell? ⟨w.heap.size, 1, none⟩ = some (ptr bd) := cell_of_heap hp1 1
       have c22 : w1.cell? ⟨w.heap.size + 1, 2, none⟩ = some (.int .i64 A) := cell_of_heap ho1 2
       have c23 : w1.cell? ⟨w.heap.size + 1, 3, none⟩ = some (.int .i64 B) := cell_of_heap ho1 3
       have c24 : w1.cell? ⟨w.heap.size + 1, 4, none⟩ = some (.int .i64 C) := cell_of_heap ho1 4
       have c25 : w1.cell? ⟨w.heap.size + 1, 5, none⟩ = some (.string S) := cell_of_heap ho1 5
       have c26 : w1.cell? ⟨w.heap.size + 1, 6, none⟩ = some (.int .i64 p0) := cell_of_heap ho1 6
       have c27 : w1.cell? ⟨w.heap.size + 1, 7, none⟩ = some (.int .i64 p1) := cell_of_heap ho1 7
       have c28 : w1.cell? ⟨w.heap.size + 1, 8, none⟩ = some (.int .i64 q0) := cell_of_heap ho1 8
       have c29 : w1.cell? ⟨w.heap.size + 1, 9, none⟩ = some (.int .i64 q1) := cell_of_heap ho1 9
       have CR := hid (HR.out w1 FR bd (HA.out.ref HB.out k1))
       have K1 := hid k1
       have D1 := hid d1
       clear k1 d1 hp1 ho1)
    | (go_at_call 80
       refine CR.out.mono ?_
       clear CR
       rintro e w2 ⟨rfl, k2, r2⟩
       have PL := hid (HA.out.play2 HB.out K1.out k2)
       have K2 := hid k2
       have R2 := hid r2
       clear k2 r2)
    | (go_at_call 20
       obtain ⟨l0, a0, y0, hq⟩ := PL.out
       refine (las_any yb psv l0 a0 y0 a y (w2.alloc (.cells #[.int .i64 a, .int .i64 y] 32)) ((Below.heap_alloc _ _ _ (heap_lt hq)).trans hq)).mono ?_
       rintro e w4 ⟨rfl, k4, hq4⟩
       have K4 := hid k4
       have Q4 := hid hq4
       clear k4 hq4 hq))
  go_ret
  exact pair_close HPD.out HA.out HWF.out HB.out K1.out D1.out K2.out R2.out ((((Keeps.refl (fun b => b = yb) w2).alloc _)).trans (K4.out.mono (fun k _ e => .inl e))) ⟨_, _, _, Q4.out⟩

end

section
variable {PD : PDT} {Q : Nat → Prop} {w0 w : World} {yb : Nat} {docs : List DocR}

set_option maxRecDepth 20000 in
set_option maxHeartbeats 4000000 in
theorem step_texts (hPD : PDOk PD) (h : InvE PD Q w0 w yb docs) (kind D A B C : Int) (S : ByteArray) (p0 p1 q0 q1 : Int) (hk2 : 7 ≤ kind) (hk6 : kind ≤ 9) (hd0 : 0 < docs.length) (hdl : docs.length < lots)
    (hD1 : -9223372036854775808 ≤ D) (hD2 : D ≤ 9223372036854775807)
    (hN : ∀ (W : World) (own : Nat → Nat) (psv : Value) (i : Nat) (d : DocR), docs[i]? = some d → Inv PD Q w0 W yb docs own psv →
      Calls Tryz.prog 43 #[ptr yb, .agg #[ptr d.bx, ptr d.bd], opV kind D A B C S p0 p1 q0 q1] W (PairPost PD (fun b => own b = 2 * i + 2) (fun b => own b = 2 * i + 3) W yb d.bx d.bd psv)) :
    Calls Tryz.prog 15 #[ptr yb, opV kind D A B C S p0 p1 q0 q1] w (StepPost PD Q w0 yb docs.length docs.length) := by
  have hI := h
  obtain ⟨own, psv, h⟩ := h
  rcases row_cases h.row with ⟨_, hz⟩ | ⟨g, c, hv⟩
  · omega
  have hrow := h.row
  rw [hv] at hrow
  obtain ⟨l0, a0, y0, hq⟩ := h.play
  have hl := heap_lt hq
  have c0 : w.cell? ⟨yb, 0, none⟩ = some (.slice (some ⟨g, 0, none⟩) docs.length c) := by rw [← hv]; exact cell_of_heap hq 0
  have hi := pickN_lt D hd0
  obtain ⟨i, hie⟩ : ∃ i, pickN D docs.length = i := ⟨_, rfl⟩
  rw [hie] at hi
  have hd : docs[i]? = some docs[i] := List.getElem?_eq_getElem hi
  generalize docs[i] = d at hd
  have hpg := pairs_get docs i d hd
  have cx : w.cell? ⟨g, i * 2, none⟩ = some (ptr d.bx) := by rw [hrow.cellAt (i * 2) (by omega)]; exact hpg.1
  have cd : w.cell? ⟨g, i * 2 + 1, none⟩ = some (ptr d.bd) := by rw [hrow.cellAt (i * 2 + 1) (by omega)]; exact hpg.2
  have hgl : g < w.heap.size := (hrow.lt g rfl).2
  have hk1' : (kind == 1) = false := by simp; omega
  have hk2' : decide (kind < 2) = false := decide_eq_false (by omega)
  have hk3' : decide (15 < kind) = false := decide_eq_false (by omega)
  have h0' : ((docs.length : Int) == 0) = false := by simp; intro e; rw [e] at hd0; simp at hd0
  have hk6' : decide (kind ≤ 6) = false := decide_eq_false (by omega)
  have hk9' : decide (kind ≤ 9) = true := decide_eq_true hk6
  have PICK := hid (pick_any D docs.length hd0 hdl hD1 hD2)
  have hil : i < docs.length := hi
  have HIE := hid hie
  have HDL := hid hdl
  have HI := hid hI
  have HPD := hid hPD
  have HN := hid hN
  have HD := hid hd
  clear hq h hI hPD hv hrow hN hd hpg hi hie hdl hD1 hD2
  go_enter Tryz.func15, Tryz.ntmps15
  go_wp2
  go_region_held3 (fun w' => w'.cell? ⟨yb, 0, none⟩ = some (.slice (some ⟨g, 0, none⟩) docs.length c) ∧ w'.cell? ⟨w.heap.size, 1, none⟩ = some (.int .i64 D) ∧ w'.cell? ⟨g, i * 2, none⟩ = some (ptr d.bx) ∧ w'.cell? ⟨g, i * 2 + 1, none⟩ = some (ptr d.bd)) (go_keep) (first
    | (go_at_call 21; refine (PICK.out _).mono ?_; rintro e w' ⟨rfl, rfl⟩; rw [HIE.out]))
  all_goals
    have hb : Below w.heap.size w (((w.alloc (.cells (opCells kind D A B C S p0 p1 q0 q1) 39)).alloc (.cells #[ptr d.bx, ptr d.bd] 44)).drew) := (((Below.refl _ w).alloc (Nat.le_refl _) _).alloc (by simp) _).drew
    obtain ⟨own2, psv2, hI2⟩ := HI.out.below HPD.out hb
    have CN := hid (HN.out (((w.alloc (.cells (opCells kind D A B C S p0 p1 q0 q1) 39)).alloc (.cells #[ptr d.bx, ptr d.bd] 44)).drew) own2 psv2 i d HD.out hI2)
    have HI2 := hid hI2
    clear hb hI2
    go_wp2_with (go_at_call 43; refine CN.out.mono ?_; intro e w3 hp; have he := hp.1; subst he; have HP := hid hp; clear hp)
    go_ret
    exact HI2.out.stepped HPD.out HD.out HP.out
end

/-- The program's calls of stage 2, beside the document's own. -/
structure Answers2 (PD : PDT) (G : World → Prop) : Prop extends Answers PD G where
  replace : ∀ s, PD.ok s → ∀ (A B C : Int) (S : ByteArray), S.size < lots → Ans PD G s 34 78 [.int .i64 A, .int .i64 B, .int .i64 C, .string S] (fun v => v) (fun v => v)
  split : ∀ s, PD.ok s → ∀ A B : Int, ∃ n : Int, Ans PD G s 30 79 [.int .i64 A, .int .i64 B] (fun v => .tuple #[.int .i64 n, v]) (fun v => .tuple #[.int .i64 n, v])
def Compares (PD : PDT) (G : World → Prop) : Prop := ∀ s, PD.ok s → ∀ p0 p1 q0 q1 : Int, ∃ n : Int, Ans PD G s 26 80 [.agg #[.int .i64 p0, .int .i64 p1], .agg #[.int .i64 q0, .int .i64 q1]] (fun v => .tuple #[.int .i64 n, v]) (fun v => .tuple #[.int .i64 n, v])

theorem steps_texts {PD : PDT} {G : World → Prop} (hA : Answers2 PD G) {Q : Nat → Prop} {w0 : World} {yb : Nat} (hG : ∀ W, Keeps Q w0 W → G W) (o : OpR) (ho : OpOk o) (hk : 7 ≤ o.kind ∧ o.kind ≤ 9) (hC : o.kind = 9 → Compares PD G) (W : World) (docs : List DocR) (hI : InvE PD Q w0 W yb docs) (hdl : docs.length < lots) :
    Calls Tryz.prog 15 #[ptr yb, o.val] W (StepPost PD Q w0 yb docs.length docs.length) := by
  obtain ⟨kind, D, A, B, C, S, p0, p1, q0, q1⟩ := o
  obtain ⟨d1, d2, hs⟩ := ho
  simp only at d1 d2 hs hk hC
  by_cases h0 : docs.length = 0
  · exact step_none hA.pd hI kind D A B C S p0 p1 q0 q1 (by omega) (.inl h0)
  refine step_texts hA.pd hI kind D A B C S p0 p1 q0 q1 hk.1 hk.2 (by omega) hdl d1 d2 (fun W1 own psv i d hd hI1 => ?_)
  have hp := hI1.pair hd
  have hwf := (hI1.doc i d hd).2.2
  have hg := hG _ hI1.fr
  have hc : kind = 7 ∨ kind = 8 ∨ kind = 9 := by omega
  rcases hc with rfl | rfl | rfl
  · exact texts_replace hA.pd hA.gb hp hg D A B C S p0 p1 q0 q1 (hA.replace d.s hwf A B C S hs)
  · exact texts_split hA.pd hA.gb hp hg D A B C S p0 p1 q0 q1 (hA.split d.s hwf A B)
  · exact texts_compare hA.pd hA.gb hp hg D A B C S p0 p1 q0 q1 (hC rfl d.s hwf p0 p1 q0 q1)

theorem steps_of2 {PD : PDT} {G : World → Prop} (hA : Answers2 PD G) (hC : Compares PD G) {Q : Nat → Prop} {w0 : World} {yb : Nat} (hG : ∀ W, Keeps Q w0 W → G W) : Steps PD Q w0 yb (fun k => 1 ≤ k ∧ k ≤ 9) := by
  intro o ho hk W docs hI hdl
  by_cases h6 : o.kind ≤ 6
  · exact steps_of hA.toAnswers hG o ho ⟨hk.1, h6⟩ W docs hI hdl
  · refine (steps_texts hA hG o ho ⟨by omega, hk.2⟩ (fun _ => hC) W docs hI hdl).mono ?_
    rintro e w' ⟨he, docs', h, hm, hl⟩
    exact ⟨he, docs', h, hm, by omega⟩

end Go.Proofs.YtabogkonklplcaaGreatDoor

/- From what the program's calls answer to the card of Texts. -/
namespace Go.Proofs.YtabogkonklplcaaGreatDoor
open Go.ChangeShapes Go.WideShapes Go.ChangeAt Go.RowKit Go.Deep
set_option linter.unusedSimpArgs false
set_option linter.unusedVariables false

set_option maxRecDepth 20000 in
set_option maxHeartbeats 1000000 in
/-- Texts. -/
theorem texts_any {PD : PDT} {w : World} (a : Option Addr) (g off c : Nat) (script : List OpR) (ha : 0 < script.length → a = some ⟨g, off, none⟩) (hs : ScriptAt w g off script) (hok : ∀ o ∈ script, OpOk o) (hlen : script.length + 6 < lots) (hgl : 0 < script.length → g < w.heap.size)
    (hPD : PDOk PD) (hst : ∀ (Q : Nat → Prop) (w0 : World) (yb : Nat), Below w.heap.size w w0 → (∀ b, Q b → w.heap.size ≤ b) → Steps PD Q w0 yb (fun k => 1 ≤ k ∧ k ≤ 9)) :
    Calls Tryz.prog 5 #[.slice a script.length c] w fun e w' => e = .returned (.bool true) ∧ Below w.heap.size w w' := by
  have hrow : (w.alloc (.cells #[.int .i64 1, .int .i64 2, .int .i64 3, .int .i64 4, .int .i64 5, .int .i64 6, .int .i64 7, .int .i64 8, .int .i64 9] 3)).ownsRow 0 3 1 (.slice (some ⟨w.heap.size, 0, none⟩) 9 9) 9 (([1, 2, 3, 4, 5, 6, 7, 8, 9] : List Int).map (fun k => Value.int .i64 k)) := by
    have := World.ownsRow_lit (base := 0) (e := 3) (size := 1) w #[.int .i64 1, .int .i64 2, .int .i64 3, .int .i64 4, .int .i64 5, .int .i64 6, .int .i64 7, .int .i64 8, .int .i64 9] 9 (Nat.zero_le _) (by decide) rfl
    simpa using this
  have hB : Below w.heap.size w (w.alloc (.cells #[.int .i64 1, .int .i64 2, .int .i64 3, .int .i64 4, .int .i64 5, .int .i64 6, .int .i64 7, .int .i64 8, .int .i64 9] 3)) := (Below.refl _ w).alloc (Nat.le_refl _) _
  have C := hid (plays_any (PD := PD) (w := w.alloc (.cells #[.int .i64 1, .int .i64 2, .int .i64 3, .int .i64 4, .int .i64 5, .int .i64 6, .int .i64 7, .int .i64 8, .int .i64 9] 3)) a g off c w.heap.size 9 script [1, 2, 3, 4, 5, 6, 7, 8, 9] ha
    (fun i o ho j u hu => by
      have hg := hgl (by have := (List.getElem?_eq_some_iff.1 ho).1; omega)
      exact (hB.cell (p := ⟨g, off + i * 10 + j, none⟩) hg).trans (hs i o ho j u hu))
    hok hlen (fun h => by have := hgl h; simp; omega) hrow (by decide)
    (by
      intro o ho hk
      refine hst _ _ _ ((hB.alloc (by simp) _).alloc (by simp; omega) _) (fun b e => by simp at e; omega) o ho ?_
      rcases hk with hk | hk
      · exact ⟨hk.1, by omega⟩
      · simp at hk; omega)
    hPD)
  have HB := hid hB
  clear hrow hB hs hok hlen hgl hPD hst ha
  go_enter Tryz.func5, Tryz.ntmps5
  go_wp2_with (go_at_call 14; refine C.out.mono ?_; rintro e w3 ⟨rfl, hb⟩)
  go_ret
  exact ⟨rfl, HB.out.trans (hb.mono (by simp))⟩

theorem laidWorld_met2 (os : Os) (args : Array Value) : laidMetH Tryz.prog Rows.textsUptoRow.laid ((laidWorld os).forCall (fun _ _ => 0) ⟨#[], args, []⟩).memory := laidWorld_met os args

section
variable {PD : PDT} {G : World → Prop}

set_option maxRecDepth 20000 in
theorem texts_contract (hA : Answers2 PD G) (hC : Compares PD G) (hL : ∀ W, laidMetH Tryz.prog Rows.textsUptoRow.laid W → G W) (H : Type) (enc : TypeId × Value → H) (W : World) (base : Nat) (args : Array Value) (ds gs : List (DataW H)) (before : List MemPlace)
    (hval : ∀ (j : Nat) t v, Tryz.f5.params[j]? = some t → args[j]? = some v → Value.okWide Tryz.prog W .any base t v)
    (hW : DataW.Whole enc Tryz.prog Tryz.f5.params.toList Rows.textsSpec.vars false W args.toList ds gs before)
    (hk : Rows.uptoSmall H (ds ++ gs) = true) (hLW : laidMetH Tryz.prog Rows.textsUptoRow.laid W) :
    Calls Tryz.prog 5 args W fun e W' => ∃ v, e = .returned v ∧ Rows.textsSpec.post enc Tryz.prog Tryz.f5 false true false false W args v W' := by
  have hW' := hW
  have hlt := hW.lt
  obtain ⟨p, q, hA0, hV, rfl, hfz, hnd⟩ := hW
  have hA1 : DataW.TrodAll enc Tryz.prog W 0 (fun _ => true) true Tryz.f5.params.toList args.toList ds p := hA0
  rw [Tryz.params5] at hA1 hval
  obtain ⟨v0, d0, rfl, rfl, h0⟩ := trodAll_one hA1
  obtain ⟨rfl, rfl⟩ := trodVars_none hV
  obtain ⟨ka, kl, kc, rfl⟩ := okWide_slice Tryz.underlying22 (hval 0 22 v0 rfl rfl)
  have hh := h0
  obtain ⟨fuel, h0'⟩ := hh
  have hb : Rows.uptoBulk d0 ≤ 1048576 := bulk_of hk
  obtain ⟨a, g, off, c, script, hv, ha, hs, hok, hlen, hgl⟩ := script_open (x := (d0, p)) h0' hb
  rw [hv] at hW' h0 ⊢
  have hG := hL W hLW
  refine (texts_any (PD := PD) a g off c script ha hs hok hlen hgl hA.pd (fun Q w0 yb hb0 hQ => ?_)).mono fun e W' ⟨he, hbl⟩ => ?_
  · refine steps_of2 hA hC (fun W1 hK => ?_)
    refine hA.gb W W1 hG (hb0.trans ?_)
    exact ⟨hK.os, hK.tape, hK.output, hK.size, fun k hk => hK.block k (Nat.lt_of_lt_of_le hk hb0.size) (fun e => by have := hQ k e; omega)⟩
  · subst he
    refine ⟨_, rfl, _, _, _, [], p, [], hW', ?_, ?_, rfl, hbl.frame _, fun h => by cases h⟩
    · exact trodAll_mk1 (shut_bool Tryz.underlying4 true)
    · rw [Tryz.params5]
      exact trodAll_mk1 (Below.trod Tryz.laidOut' (by kernel_rfl) (of_decide_eq_true (by kernel_rfl)) h0 hbl (fun x hx => hlt x (by simpa using hx)))

theorem texts_reads (os : Os) {H : Type} (enc : TypeId × Value → H) : ∃ places, DataW.whole enc Tryz.prog ((laidWorld os).forCall (fun _ _ => 0) ⟨#[], #[.slice none 0 0], []⟩).memory Tryz.f5.params.toList Rows.textsSpec.vars false #[Value.slice none 0 0].toList 8 = some ([.nil], [], places) :=
  ⟨[], by kernel_rfl⟩

set_option maxRecDepth 100000 in
theorem texts_lifted (hA : Answers2 PD G) (hC : Compares PD G) (hL : ∀ W, laidMetH Tryz.prog Rows.textsUptoRow.laid W → G W) (os : Os) (started : os.Started) (H : Type) (enc : TypeId × Value → H) (F : Stop.Interp) :
    ReturnsInHanded {} Tryz.checked os 5 .any ((Rows.OpenSpec.upto Rows.textsSpec).preRow enc Tryz.prog Tryz.f5 Rows.textsUptoRow.domain false Rows.textsUptoRow.laid) (((Rows.OpenSpec.upto Rows.textsSpec).at F).post enc Tryz.prog Tryz.f5 false true false false) := by
  obtain ⟨places, hx⟩ := texts_reads os enc
  refine returnsInHanded_of_row (C := Tryz.checked) (s := Rows.OpenSpec.upto Rows.textsSpec) Tryz.own started (by kernel_rfl) Tryz.func5
    (witness_row_atRef (enc := enc) (C := Tryz.checked) false (laidWorld os) #[.slice none 0 0] rfl (by kernel_rfl) (by kernel_rfl) (by kernel_rfl)
      (OpenSpec.preRow_of_cond 8 hx (by kernel_rfl) (fun k hk => by cases hk; kernel_rfl) (by kernel_rfl) (laidWorld_met2 os _))) ?_
  intro W base args ds gs before hval hW _ hcond _ hLW _ _
  exact texts_contract hA hC hL H enc W base args ds gs before hval hW (hcond _ rfl) hLW

theorem texts_said (hA : Answers2 PD G) (hC : Compares PD G) (hL : ∀ W, laidMetH Tryz.prog Rows.textsUptoRow.laid W → G W) : Rows.TextsUptoSaid :=
  OpenClaim.holds_of_cond 5 Tryz.f5 rfl rfl rfl rfl rfl rfl rfl ⟨rfl, rfl, rfl, rfl, rfl⟩ rfl rfl rfl rfl rfl (by kernel_rfl) Tryz.func5 (by kernel_rfl)
    (of_decide_eq_true (by kernel_rfl)) (by unfold Func.isWrapper; first | (rw [if_pos (by decide +kernel)]; kernel_rfl) | (rw [if_neg (by decide +kernel)]; exact ⟨rfl, rfl⟩))
    (fun os started H enc _ F => by rw [OpenClaim.pre_eq_preRow]; exact texts_lifted hA hC hL os started H enc F)

theorem texts_plain (f : FuncId) (fn : Func) (hf : Tryz.pinned.checked.prog.funcNamed "margin/marginlaw.Texts" = some f) (hfn : Tryz.pinned.checked.prog.funcs[f]? = some fn) :
    true = Tryz.pinned.checked.prog.looks [] ∧ ∀ (j : Nat) t, fn.params[j]? = some t → Tryz.pinned.checked.prog.wantsStandIn t = false := by
  obtain rfl : f = 5 := Option.some.inj ((show Tryz.prog.funcNamed "margin/marginlaw.Texts" = some 5 by kernel_rfl).symm.trans hf) |>.symm
  obtain rfl : fn = Tryz.f5 := (Option.some.inj (Tryz.func5.symm.trans hfn)).symm
  refine ⟨by kernel_rfl, fun j t ht => ?_⟩
  rw [Tryz.params5] at ht
  obtain rfl : t = 22 := by simpa using Array.mem_of_getElem? ht
  exact (show Tryz.prog.wantsStandIn 22 = false by kernel_rfl)

theorem texts_card (hA : Answers2 PD G) (hC : Compares PD G) (hL : ∀ W, laidMetH Tryz.prog Rows.textsUptoRow.laid W → G W) : Rows.TextsUptoCardSaid :=
  Claim7.holds_tied_plain_at .later [] _ _ _ _ (texts_said hA hC hL) (fun _ h => by cases h) (by kernel_rfl) (fun _ h => by cases h) textsUpto_row_tie rfl ⟨rfl, rfl⟩ (by kernel_rfl) rfl texts_plain (by kernel_rfl)

end

end Go.Proofs.YtabogkonklplcaaGreatDoor

/- Texts. -/
namespace Go.Proofs.YtabogkonklplcaaGreatDoor
open Go.RowKit

theorem answers2 : Answers2 PDoc GG where
  toAnswers := answers_of ans_insert
  replace := fun ⟨s, r⟩ ⟨wf, hr⟩ A B C S hS => by cases hr; exact ans_replace s wf A B C S hS
  split := fun ⟨s, r⟩ ⟨wf, hr⟩ A B => by cases hr; exact ans_split s wf A B
theorem compares : Compares PDoc GG := fun ⟨s, r⟩ ⟨wf, hr⟩ p0 p1 q0 q1 => by cases hr; exact ans_compare s wf p0 p1 q0 q1

theorem gg_of_laid3 (W : World) (h : laidMetH Tryz.prog Rows.textsUptoRow.laid W) : GG W := gg_of_laid W h

/-- The statement. -/
theorem texts_holds : Rows.TextsUptoCardSaid := texts_card answers2 compares gg_of_laid3
#print axioms texts_holds

end Go.Proofs.YtabogkonklplcaaGreatDoor
