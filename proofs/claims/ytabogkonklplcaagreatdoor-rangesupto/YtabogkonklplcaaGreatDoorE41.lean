import Derived.Test.YtabogkonklplcaaGreatDoorE40
import Derived.Test.YtabogkonklplcaaGreatDoorE20
import Derived.Test.YtabogkonklplcaaGreatDoorE16

/- marginref's Split of a text without a parent, with ranges. -/
namespace Go.Proofs.YtabogkonklplcaaGreatDoor
open Go.RowKit
set_option linter.unusedSimpArgs false
set_option linter.unusedVariables false

section
variable {w : World} {F : Nat → Prop} {bd bn cap : Nat} {rn : List RN} {rv : Value} {s : List Nd} {rs : List Sp}

set_option maxRecDepth 20000 in
set_option maxHeartbeats 16000000 in
theorem rsplit_topR (hD : RDocAt w F bd bn cap rn rv s rs) (n k : Nat) (x : Nd) (hx : s[n]? = some x) (ht : x.t = true) (hlen : x.cs.length ≤ 30) (hk : k ≤ x.cs.length) (h40 : s.length < 40) (hp : x.p < 0) (hsm : Small rs) (h6 : rs.length ≤ 6) :
    Calls Tryz.prog 79 #[.pointer (some ⟨bd, 0, none⟩), .int .i64 n, .int .i64 k] w fun e w' => e = .returned (.tuple #[.int .i64 s.length, rfltV 0 0]) ∧ Keeps F w w' ∧
      RDoc w' (fun b => F b ∨ w.heap.size ≤ b) bd ((s ++ [(⟨true, x.cs.drop k, [], x.p⟩ : Nd)]).set n { x with cs := x.cs.take k }) (rs.map (mvSp (resizeF n k ((x.cs.length - k : Nat) : Int) 0))) := by
  obtain ⟨i0, hi, hz0, hz1, hz2⟩ := info_parts Tryz.info9
  obtain ⟨j0, hj, jz0, jz1, jz2⟩ := info_parts Tryz.info119
  have hn : n < s.length := (List.getElem?_eq_some_iff.1 hx).1
  have CF := hid (textFits_ok (hD.below (one0_below w)) n k x hx ht hk)
  have h1b : ((0 : Int) == 0) = true := rfl
  have h40b : decide ((40 : Int) ≤ (s.length : Int)) = false := decide_eq_false (by omega)
  have h0 := hD.nodesCell
  have hlt := hD.lt
  have hlenE := hD.len
  have hpd : decide (0 ≤ x.p) = false := decide_eq_false (by omega)
  have hpd' : ¬ (0 : Int) ≤ x.p := by omega
  obtain ⟨r, hr, ho, -, hc1, -, hc3⟩ := hD.look hx
  obtain ⟨ta, tc, hsl, hsrc⟩ := slice_tail (t := 107) Tryz.underlying107 Tryz.elem107 Tryz.sizeOf9 ho.chars (strsV_one _) k hk (fun w => by kernel_rfl)
  obtain ⟨ca, cc, hcv⟩ := slice_shape ho.chars
  rw [hcv] at hc1 hsl hsrc
  have HROW := hid ho.chars
  rw [hcv] at HROW
  have HSRC := hid hsrc
  have HTB := hid (one0_below w)
  have HD := hid hD
  have HSM := hid hsm
  clear hsm
  have HX := hid hx
  clear hD hr ho hcv hx ht hsrc
  go_enter Tryz.func79, Tryz.ntmps79
  go_wp2_with (first
    | (go_at_call 123; refine CF.out.mono ?_; rintro e w1 ⟨rfl, hb1⟩
       have hq2 : w1.heap[w.heap.size]? = some (.cells #[.int .i64 0, .int .i64 0] 32 (0, 0)) := by
         rw [hb1.block _ (by simp)]
         exact heap_alloc_new w _
       have hs1 : w.heap.size + 1 ≤ w1.heap.size := by have := hb1.size; simpa using this
       have HB1 := hid (HTB.out.trans (hb1.mono HTB.out.size))
       have HQ2 := hid hq2
       clear hb1 hq2)
    | (go_at_call 124; refine (fine_any 0 0 _).mono ?_; rintro e w2 ⟨rfl, hb2⟩
       have hf2 : w2.heap[w1.heap.size]? = some (.cells #[.int .i64 0, .int .i64 0] 32 (0, 0)) := (hb2.block _ (by simp)).trans (heap_alloc_new w1 _)
       have hz2 : w2.heap[w.heap.size]? = some (.cells #[.int .i64 0, .int .i64 0] 32 (0, 0)) :=
         (hb2.block _ (by simp; omega)).trans ((((Below.refl _ w1).alloc (Nat.le_refl _) _).block _ (by omega)).trans HQ2.out)
       have cf0 : w2.cell? ⟨w1.heap.size, 0, none⟩ = some (.int .i64 0) := cell_of_heap hf2 0
       have cf1 : w2.cell? ⟨w1.heap.size, 1, none⟩ = some (.int .i64 0) := cell_of_heap hf2 1
       have cz0 : w2.cell? ⟨w.heap.size, 0, none⟩ = some (.int .i64 0) := cell_of_heap hz2 0
       have cz1 : w2.cell? ⟨w.heap.size, 1, none⟩ = some (.int .i64 0) := cell_of_heap hz2 1
       have fz0 := frozen_of_heap hz2 0
       have fz1 := frozen_of_heap hz2 1
       have HB2 := hid ((HB1.out.alloc HB1.out.size _).trans (hb2.mono (Nat.le_trans HB1.out.size (by simp))))
       have hs2 : w.heap.size + 1 ≤ w2.heap.size := by have := hb2.size; simp at this; omega
       clear hb2
       have HZ := hid hz2
       have d0 := (HB2.out.cell (p := ⟨bd, 0, none⟩) hlt.1).trans h0
       have d1 := (HB2.out.cell (p := ⟨bn, n * 4 + 1, none⟩) hlt.2).trans hc1
       have d3 := (HB2.out.cell (p := ⟨bn, n * 4 + 3, none⟩) hlt.2).trans hc3
       have S2 := hid (HSRC.out w2 ((Keeps.of_below (F := fun _ => False) HB2.out).row HROW.out (fun _ _ e => e)))
       have HF := hid (And.intro hf2 hf2)
       clear hz2
       rw [h1b])
    | (at_builtin; refine wpList_append_any _ rfl (.tmp 32) (.tmp 42) 107 rfl w2.heap.size 9 i0 (.string ByteArray.empty) 1 16 Tryz.underlying107 hi hz0 hz1 hz2 rfl (by decide) (.slice none 0 0) 0 [] rfl (World.ownsRow_nil _ _ _ _) _ _ _ rfl S2.out (by unfold maxLen; omega) (by omega) (Nat.le_refl _) ?_
       intro v1 w3 ho1 hb1
       obtain ⟨va, vc, hv1⟩ := slice_shape ho1
       subst hv1
       have hh := HB2.out.trans (hb1.mono HB2.out.size)
       have hz := hh.size
       have d0' := (hh.cell (p := ⟨bd, 0, none⟩) hlt.1).trans h0
       have d3' := (hh.cell (p := ⟨bn, n * 4 + 3, none⟩) hlt.2).trans hc3
       have HO1 := hid ho1
       have HB3 := hid hh
       have hz3 : w3.heap[w.heap.size]? = some (.cells #[.int .i64 0, .int .i64 0] 32 (0, 0)) := (hb1.block _ (heap_lt HZ.out)).trans HZ.out
       have HZ3 := hid hz3
       have HW3 := hid (And.intro hz (heap_lt hz3))
       go_must (have HD2 : Hid (RDocAt (w3.alloc (.cells #[.bool true, .slice va (0 + (x.cs.length - k)) vc, .slice none 0 0, .int .i64 x.p] 119)) (fun b => F b ∧ b < w.heap.size) bd bn cap rn rv s rs) :=
         HD.out.narrow.below (hh.alloc hh.size _))
       clear ho1 hb1 hh hz3)
    | (at_builtin
       refine wpList_append_lies _ rfl (.tmp 61) (.tmp 65) 120 rfl 0 119 j0 _ 4 64 Tryz.underlying120 hj jz0 jz1 jz2 rfl (by decide) (.slice (some ⟨bn, 0, none⟩) s.length cap) s.length _ rfl (by have := HD2.out.nodes; rw [hlenE] at this; simp only [Nat.zero_add] at this; exact this) ⟨w3.heap.size, 0, none⟩ 1 1 [.bool true, .slice va (x.cs.length - k) vc, .slice none 0 0, .int .i64 x.p] rfl rfl (World.news_of_block (heap_alloc_new w3 _)) (by simp [Value.oneCell']) (by decide) (by unfold maxLen; omega) (by omega) (Nat.zero_le _) (w3.heap.size + 1) (by simp) ?_
       intro g cap' w4 ho (hg : World.grownBy _ w4 (some bn)) (hgn : some bn = some g ∨ _) _
       have z0 := HW3.out.1
       have z1 := HW3.out.2
       have hD2 := HD2.out
       simp only [Nat.zero_add] at hD2
       have hd1 := (hg.block bd (by simp only [World.size_alloc]; omega) (by simpa using hD2.ne)).trans hD2.doc
       have hcD : w4.cell? ⟨bd, 0, none⟩ = some (.slice (some ⟨bn, 0, none⟩) rn.length cap) := cell_of_heap hd1 0
       have hfD := frozen_of_heap hd1 0
       have hq1 := (hg.block w.heap.size (by simp only [World.size_alloc]; omega) (by simp; omega)).trans ((Below.heap_alloc _ _ _ z1).trans HZ3.out)
       have hcr := HO1.out
       simp only [Nat.zero_add, List.nil_append] at hcr
       have hcb : ∀ b, (Value.slice va (x.cs.length - k) vc).ownBlock = some b → w2.heap.size ≤ b := fun b e => (hcr.lt b e).1
       have hcs : (x.cs.drop k).length = x.cs.length - k := by simp
       have hcv : (strsV x.cs).drop k = strsV (x.cs.drop k) := by simp [strsV]
       have hp5 := hD2.pushed (B := w.heap.size + 1) (x := ⟨true, x.cs.drop k, [], x.p⟩) (r := ⟨true, .slice va (x.cs.length - k) vc, .slice none 0 0, x.p⟩) (by simp only [World.size_alloc]; omega) hg (by rw [hlenE]; exact ho) (by rcases hgn with e | e; exact .inl (by cases e; rfl); exact .inr (by simpa using e))
         ⟨rfl, rfl, by rw [hcs, ← hcv]; exact ownsRow_zero (hcr.alloc _), World.ownsRow_nil _ _ _ _, fun b e => ⟨.inr (by have := hcb b e; omega), by have := hcb b e; omega, by have := hcb b e; omega, fun e2 => by have := hcb b e; have := (HD.out.ranges.lt b e2).2; omega⟩, fun b e => (by cases e)⟩
       rw [hlenE] at hp5 hcD
       have hk0 : Keeps F w w4 := ((Keeps.of_below (F := F) HB3.out).alloc _).trans (Keeps.grown hg (fun k e => by cases e; exact .inl (.inl HD.out.Fn)))
       have hq5 : (w4.setCell ⟨bd, 0, none⟩ (.slice (some ⟨g, 0, none⟩) (s.length + 1) cap')).heap[w.heap.size]? = some (.cells #[.int .i64 0, .int .i64 0] 32 (0, 0)) := by
         rw [Below.heap_setCell _ _ _ _ (by simp; omega)]; exact hq1
       have HP5 := hid hp5
       have HK0 := hid hk0
       have HQ5 := hid hq5
       have CR := hid (replace_anyR hp5 n k (x.cs.length - k) x (by rw [List.getElem?_append_left hn]; exact HX.out) hlen (by omega) (.slice none 0 0) [] (by decide) (World.ownsRow_nil _ _ _ _) HSM.out h6 (by decide))
       clear hd1 hq1 hg ho hgn hp5 hk0 hq5 hD2 hcr hcb hcs hcv)
    | (go_at_call 125
       refine CR.out.mono ?_
       rintro e w5 ⟨rfl, hk5, hr5⟩
       have hz5 := (hk5.block _ (heap_lt HQ5.out) (fun e => by rcases e with e | e; exact Nat.lt_irrefl _ e.2; omega)).trans HQ5.out
       have cz5 : w5.cell? ⟨w.heap.size, 0, none⟩ = some (.int .i64 0) := cell_of_heap hz5 0
       have cz6 : w5.cell? ⟨w.heap.size, 1, none⟩ = some (.int .i64 0) := cell_of_heap hz5 1
       have fz5 := frozen_of_heap hz5 0
       have fz6 := frozen_of_heap hz5 1
       have hs5 := heap_lt hz5
       have HK5 := hid hk5
       have HR5 := hid hr5
       clear hk5 hr5 hz5))
  refine bodyPost_ret (v := .tuple #[.int .i64 s.length, rfltV 0 0]) (by simp [results, Tryz.results79, go_sem, cz5, cz6, fz5, fz6, hs5]) rfl ?_
  have hk6 : Keeps F w w5 := (HK0.out.setCell (p := ⟨bd, 0, none⟩) (.inl HD.out.Fd) _).trans (HK5.out.mono (fun b _ e => by rcases e with e | e; exact .inl e.1; exact .inr (by omega)))
  have hk7 : Keeps (fun b => b = w.heap.size) w5 ((w5.setCell ⟨w.heap.size, 0, none⟩ (.int .i64 0)).setCell ⟨w.heap.size, 1, none⟩ (.int .i64 0)) := ((Keeps.refl (fun b => b = w.heap.size) w5).setCell (p := ⟨w.heap.size, 0, none⟩) (.inl rfl) _).setCell (p := ⟨w.heap.size, 1, none⟩) (.inl rfl) _
  obtain ⟨bn6, cap6, rn6, rv6, hD6⟩ := HR5.out.keeps hk7 (fun b e e2 => by have := heap_lt HQ5.out; rcases e with (e | e) | e <;> omega)
  refine ⟨rfl, (hk6.setCell (p := ⟨w.heap.size, 0, none⟩) (.inr (Nat.le_refl _)) _).setCell (p := ⟨w.heap.size, 1, none⟩) (.inr (Nat.le_refl _)) _, bn6, cap6, rn6, rv6, ?_⟩
  have e7 : x.cs.take k ++ [] ++ x.cs.drop (k + (x.cs.length - k)) = x.cs.take k := by rw [List.drop_of_length_le (by omega)]; simp
  rw [e7] at hD6
  refine hD6.wider (fun b e => ?_)
  rcases e with (e | e) | e
  · exact .inl e.1
  · exact .inr (by omega)
  · exact .inr (by have := heap_lt HQ5.out; omega)
end

end Go.Proofs.YtabogkonklplcaaGreatDoor

/- marginlaw's texts: one call of Replace, Split, Compare on both documents; its step. -/
namespace Go.Proofs.YtabogkonklplcaaGreatDoor
open Go.RowKit
set_option linter.unusedSimpArgs false
set_option linter.unusedVariables false

section
variable {PD : PDT} {G : World → Prop} {FP FR : Nat → Prop} {w : World} {yb bx bd : Nat} {psv : Value} {s : St}

set_option maxRecDepth 20000 in
set_option maxHeartbeats 4000000 in
theorem texts_replace (hPD : PDOk PD) (hGB : ∀ w w', G w → Below w.heap.size w w' → G w') (hA : PairAt PD FP FR w yb bx bd psv s) (hg : G w)
    (D A B C : Int) (S : ByteArray) (p0 p1 q0 q1 : Int) (h : Ans PD G s 34 78 [.int .i64 A, .int .i64 B, .int .i64 C, .string S] (fun v => v) (fun v => v)) :
    Calls Tryz.prog 43 #[ptr yb, .agg #[ptr bx, ptr bd], opV 7 D A B C S p0 p1 q0 q1] w (PairPost PD FP FR w yb bx bd psv) := by
  obtain ⟨a, y, s', hwf, hp, hr⟩ := h
  have hB := boxed2_below w bx bd 7 D A B C S p0 p1 q0 q1
  have hbp := boxed2_pair w bx bd 7 D A B C S p0 p1 q0 q1
  have hbo := boxed2_op w bx bd 7 D A B C S p0 p1 q0 q1
  have CP := hid (hp (boxed2 w bx bd 7 D A B C S p0 p1 q0 q1) FP bx (hGB _ _ hg hB) (hPD.keeps hA.pd (Keeps.of_below (F := fun _ => False) hB) (fun _ _ e => e)))
  have HB := hid hB
  have HBP := hid hbp
  have HBO := hid hbo
  have HR := hid hr
  have HA := hid hA
  have HPD := hid hPD
  have HWF := hid hwf
  clear hp hr hB hbp hbo hA hPD hwf hg hGB
  go_enter Tryz.func43, Tryz.ntmps43
  go_wp2_with (first
    | (go_at_call 34
       refine CP.out.mono ?_
       clear CP
       rintro e w1 ⟨rfl, k1, d1⟩
       have hp1 := HA.out.old k1 (Nat.le_refl _) HBP.out
       have ho1 := HA.out.old k1 (Nat.le_succ _) HBO.out
       have c10 : w1.cell? ⟨w.heap.size, 0, none⟩ = some (ptr bx) := cell_of_heap hp1 0
       have c11 : w1.cell? ⟨w.heap.size, 1, none⟩ = some (ptr bd) := cell_of_heap hp1 1
       have c22 : w1.cell? ⟨w.heap.size + 1, 2, none⟩ = some (.int .i64 A) := cell_of_heap ho1 2
       have c23 : w1.cell? ⟨w.heap.size + 1, 3, none⟩ = some (.int .i64 B) := cell_of_heap ho1 3
       have c24 : w1.cell? ⟨w.heap.size + 1, 4, none⟩ = some (.int .i64 C) := cell_of_heap ho1 4
       have c25 : w1.cell? ⟨w.heap.size + 1, 5, none⟩ = some (.string S) := cell_of_heap ho1 5
       have CR := hid (HR.out w1 FR bd (HA.out.ref HB.out k1))
       have K1 := hid k1
       have D1 := hid d1
       clear k1 d1 hp1 ho1)
    | (go_at_call 78
       refine CR.out.mono ?_
       clear CR
       rintro e w2 ⟨rfl, k2, r2⟩
       have PL := hid (HA.out.play2 HB.out K1.out k2)
       have K2 := hid k2
       have R2 := hid r2
       clear k2 r2)
    | (go_at_call 20
       obtain ⟨l0, a0, y0, hq⟩ := PL.out
       refine (las_any yb psv l0 a0 y0 a y w2 hq).mono ?_
       rintro e w4 ⟨rfl, k4, hq4⟩
       have K4 := hid k4
       have Q4 := hid hq4
       clear k4 hq4 hq))
  go_ret
  exact pair_close HPD.out HA.out HWF.out HB.out K1.out D1.out K2.out R2.out K4.out ⟨_, _, _, Q4.out⟩

set_option maxRecDepth 20000 in
set_option maxHeartbeats 4000000 in
theorem texts_split (hPD : PDOk PD) (hGB : ∀ w w', G w → Below w.heap.size w w' → G w') (hA : PairAt PD FP FR w yb bx bd psv s) (hg : G w)
    (D A B C : Int) (S : ByteArray) (p0 p1 q0 q1 : Int) (h : ∃ n : Int, Ans PD G s 30 79 [.int .i64 A, .int .i64 B] (fun v => .tuple #[.int .i64 n, v]) (fun v => .tuple #[.int .i64 n, v])) :
    Calls Tryz.prog 43 #[ptr yb, .agg #[ptr bx, ptr bd], opV 8 D A B C S p0 p1 q0 q1] w (PairPost PD FP FR w yb bx bd psv) := by
  obtain ⟨n, a, y, s', hwf, hp, hr⟩ := h
  have hB := boxed2_below w bx bd 8 D A B C S p0 p1 q0 q1
  have hbp := boxed2_pair w bx bd 8 D A B C S p0 p1 q0 q1
  have hbo := boxed2_op w bx bd 8 D A B C S p0 p1 q0 q1
  have CP := hid (hp (boxed2 w bx bd 8 D A B C S p0 p1 q0 q1) FP bx (hGB _ _ hg hB) (hPD.keeps hA.pd (Keeps.of_below (F := fun _ => False) hB) (fun _ _ e => e)))
  have HB := hid hB
  have HBP := hid hbp
  have HBO := hid hbo
  have HR := hid hr
  have HA := hid hA
  have HPD := hid hPD
  have HWF := hid hwf
  clear hp hr hB hbp hbo hA hPD hwf hg hGB
  go_enter Tryz.func43, Tryz.ntmps43
  go_wp2_with (first
    | (go_at_call 30
       refine CP.out.mono ?_
       clear CP
       rintro e w1 ⟨rfl, k1, d1⟩
       have hp1 := HA.out.old k1 (Nat.le_refl _) HBP.out
       have ho1 := HA.out.old k1 (Nat.le_succ _) HBO.out
       have c10 : w1.cell? ⟨w.heap.size, 0, none⟩ = some (ptr bx) := cell_of_heap hp1 0
       have c11 : w1.cell? ⟨w.heap.size, 1, none⟩ = some (ptr bd) := cell_of_heap hp1 1
       have c22 : w1.cell? ⟨w.heap.size + 1, 2, none⟩ = some (.int .i64 A) := cell_of_heap ho1 2
       have c23 : w1.cell? ⟨w.heap.size + 1, 3, none⟩ = some (.int .i64 B) := cell_of_heap ho1 3
       have c24 : w1.cell? ⟨w.heap.size + 1, 4, none⟩ = some (.int .i64 C) := cell_of_heap ho1 4
       have c25 : w1.cell? ⟨w.heap.size + 1, 5, none⟩ = some (.string S) := cell_of_heap ho1 5
       have CR := hid (HR.out w1 FR bd (HA.out.ref HB.out k1))
       have K1 := hid k1
       have D1 := hid d1
       clear k1 d1 hp1 ho1)
    | (go_at_call 79
       refine CR.out.mono ?_
       clear CR
       rintro e w2 ⟨rfl, k2, r2⟩
       have PL := hid (HA.out.play2 HB.out K1.out k2)
       have K2 := hid k2
       have R2 := hid r2
       clear k2 r2)
    | (go_at_call 20
       obtain ⟨l0, a0, y0, hq⟩ := PL.out
       refine (las_any yb psv l0 a0 y0 a y (w2.alloc (.cells #[.int .i64 a, .int .i64 y] 32)) ((Below.heap_alloc _ _ _ (heap_lt hq)).trans hq)).mono ?_
       rintro e w4 ⟨rfl, k4, hq4⟩
       have K4 := hid k4
       have Q4 := hid hq4
       clear k4 hq4 hq))
  go_ret
  exact pair_close HPD.out HA.out HWF.out HB.out K1.out D1.out K2.out R2.out ((((Keeps.refl (fun b => b = yb) w2).alloc _)).trans (K4.out.mono (fun k _ e => .inl e))) ⟨_, _, _, Q4.out⟩

set_option maxRecDepth 20000 in
set_option maxHeartbeats 4000000 in
theorem texts_compare (hPD : PDOk PD) (hGB : ∀ w w', G w → Below w.heap.size w w' → G w') (hA : PairAt PD FP FR w yb bx bd psv s) (hg : G w)
    (D A B C : Int) (S : ByteArray) (p0 p1 q0 q1 : Int) (h : ∃ n : Int, Ans PD G s 26 80 [.agg #[.int .i64 p0, .int .i64 p1], .agg #[.int .i64 q0, .int .i64 q1]] (fun v => .tuple #[.int .i64 n, v]) (fun v => .tuple #[.int .i64 n, v])) :
    Calls Tryz.prog 43 #[ptr yb, .agg #[ptr bx, ptr bd], opV 9 D A B C S p0 p1 q0 q1] w (PairPost PD FP FR w yb bx bd psv) := by
  obtain ⟨n, a, y, s', hwf, hp, hr⟩ := h
  have hB := boxed2_below w bx bd 9 D A B C S p0 p1 q0 q1
  have hbp := boxed2_pair w bx bd 9 D A B C S p0 p1 q0 q1
  have hbo := boxed2_op w bx bd 9 D A B C S p0 p1 q0 q1
  have CP := hid (hp (boxed2 w bx bd 9 D A B C S p0 p1 q0 q1) FP bx (hGB _ _ hg hB) (hPD.keeps hA.pd (Keeps.of_below (F := fun _ => False) hB) (fun _ _ e => e)))
  have HB := hid hB
  have HBP := hid hbp
  have HBO := hid hbo
  have HR := hid hr
  have HA := hid hA
  have HPD := hid hPD
  have HWF := hid hwf
  clear hp hr hB hbp hbo hA hPD hwf hg hGB
  go_enter Tryz.func43, Tryz.ntmps43
  go_wp2_with (first
    | (go_at_call 26
       refine CP.out.mono ?_
       clear CP
       rintro e w1 ⟨rfl, k1, d1⟩
       have hp1 := HA.out.old k1 (Nat.le_refl _) HBP.out
       have ho1 := HA.out.old k1 (Nat.le_succ _) HBO.out
       have c10 : w1.cell? ⟨w.heap.size, 0, none⟩ = some (ptr bx) := cell_of_heap hp1 0
       have c11 : w1.cell? ⟨w.heap.size, 1, none⟩ = some (ptr bd) := cell_of_heap hp1 1
       have c22 : w1.cell? ⟨w.heap.size + 1, 2, none⟩ = some (.int .i64 A) := cell_of_heap ho1 2
       have c23 : w1.cell? ⟨w.heap.size + 1, 3, none⟩ = some (.int .i64 B) := cell_of_heap ho1 3
       have c24 : w1.cell? ⟨w.heap.size + 1, 4, none⟩ = some (.int .i64 C) := cell_of_heap ho1 4
       have c25 : w1.cell? ⟨w.heap.size + 1, 5, none⟩ = some (.string S) := cell_of_heap ho1 5
       have c26 : w1.cell? ⟨w.heap.size + 1, 6, none⟩ = some (.int .i64 p0) := cell_of_heap ho1 6
       have c27 : w1.cell? ⟨w.heap.size + 1, 7, none⟩ = some (.int .i64 p1) := cell_of_heap ho1 7
       have c28 : w1.cell? ⟨w.heap.size + 1, 8, none⟩ = some (.int .i64 q0) := cell_of_heap ho1 8
       have c29 : w1.cell? ⟨w.heap.size + 1, 9, none⟩ = some (.int .i64 q1) := cell_of_heap ho1 9
       have CR := hid (HR.out w1 FR bd (HA.out.ref HB.out k1))
       have K1 := hid k1
       have D1 := hid d1
       clear k1 d1 hp1 ho1)
    | (go_at_call 80
       refine CR.out.mono ?_
       clear CR
       rintro e w2 ⟨rfl, k2, r2⟩
       have PL := hid (HA.out.play2 HB.out K1.out k2)
       have K2 := hid k2
       have R2 := hid r2
       clear k2 r2)
    | (go_at_call 20
       obtain ⟨l0, a0, y0, hq⟩ := PL.out
       refine (las_any yb psv l0 a0 y0 a y (w2.alloc (.cells #[.int .i64 a, .int .i64 y] 32)) ((Below.heap_alloc _ _ _ (heap_lt hq)).trans hq)).mono ?_
       rintro e w4 ⟨rfl, k4, hq4⟩
       have K4 := hid k4
       have Q4 := hid hq4
       clear k4 hq4 hq))
  go_ret
  exact pair_close HPD.out HA.out HWF.out HB.out K1.out D1.out K2.out R2.out ((((Keeps.refl (fun b => b = yb) w2).alloc _)).trans (K4.out.mono (fun k _ e => .inl e))) ⟨_, _, _, Q4.out⟩

end

section
variable {PD : PDT} {Q : Nat → Prop} {w0 w : World} {yb : Nat} {docs : List DocR}

set_option maxRecDepth 20000 in
set_option maxHeartbeats 4000000 in
theorem step_texts (hPD : PDOk PD) (h : InvE PD Q w0 w yb docs) (kind D A B C : Int) (S : ByteArray) (p0 p1 q0 q1 : Int) (hk2 : 7 ≤ kind) (hk6 : kind ≤ 9) (hd0 : 0 < docs.length) (hdl : docs.length < lots)
    (hD1 : -9223372036854775808 ≤ D) (hD2 : D ≤ 9223372036854775807)
    (hN : ∀ (W : World) (own : Nat → Nat) (psv : Value) (i : Nat) (d : DocR), docs[i]? = some d → Inv PD Q w0 W yb docs own psv →
      Calls Tryz.prog 43 #[ptr yb, .agg #[ptr d.bx, ptr d.bd], opV kind D A B C S p0 p1 q0 q1] W (PairPost PD (fun b => own b = 2 * i + 2) (fun b => own b = 2 * i + 3) W yb d.bx d.bd psv)) :
    Calls Tryz.prog 15 #[ptr yb, opV kind D A B C S p0 p1 q0 q1] w (StepPost PD Q w0 yb docs.length docs.length) := by
  have hI := h
  obtain ⟨own, psv, h⟩ := h
  rcases row_cases h.row with ⟨_, hz⟩ | ⟨g, c, hv⟩
  · omega
  have hrow := h.row
  rw [hv] at hrow
  obtain ⟨l0, a0, y0, hq⟩ := h.play
  have hl := heap_lt hq
  have c0 : w.cell? ⟨yb, 0, none⟩ = some (.slice (some ⟨g, 0, none⟩) docs.length c) := by rw [← hv]; exact cell_of_heap hq 0
  have hi := pickN_lt D hd0
  obtain ⟨i, hie⟩ : ∃ i, pickN D docs.length = i := ⟨_, rfl⟩
  rw [hie] at hi
  have hd : docs[i]? = some docs[i] := List.getElem?_eq_getElem hi
  generalize docs[i] = d at hd
  have hpg := pairs_get docs i d hd
  have cx : w.cell? ⟨g, i * 2, none⟩ = some (ptr d.bx) := by rw [hrow.cellAt (i * 2) (by omega)]; exact hpg.1
  have cd : w.cell? ⟨g, i * 2 + 1, none⟩ = some (ptr d.bd) := by rw [hrow.cellAt (i * 2 + 1) (by omega)]; exact hpg.2
  have hgl : g < w.heap.size := (hrow.lt g rfl).2
  have hk1' : (kind == 1) = false := by simp; omega
  have hk2' : decide (kind < 2) = false := decide_eq_false (by omega)
  have hk3' : decide (15 < kind) = false := decide_eq_false (by omega)
  have h0' : ((docs.length : Int) == 0) = false := by simp; intro e; rw [e] at hd0; simp at hd0
  have hk6' : decide (kind ≤ 6) = false := decide_eq_false (by omega)
  have hk9' : decide (kind ≤ 9) = true := decide_eq_true hk6
  have PICK := hid (pick_any D docs.length hd0 hdl hD1 hD2)
  have hil : i < docs.length := hi
  have HIE := hid hie
  have HDL := hid hdl
  have HI := hid hI
  have HPD := hid hPD
  have HN := hid hN
  have HD := hid hd
  clear hq h hI hPD hv hrow hN hd hpg hi hie hdl hD1 hD2
  go_enter Tryz.func15, Tryz.ntmps15
  go_wp2
  go_region_held3 (fun w' => w'.cell? ⟨yb, 0, none⟩ = some (.slice (some ⟨g, 0, none⟩) docs.length c) ∧ w'.cell? ⟨w.heap.size, 1, none⟩ = some (.int .i64 D) ∧ w'.cell? ⟨g, i * 2, none⟩ = some (ptr d.bx) ∧ w'.cell? ⟨g, i * 2 + 1, none⟩ = some (ptr d.bd)) (go_keep) (first
    | (go_at_call 21; refine (PICK.out _).mono ?_; rintro e w' ⟨rfl, rfl⟩; rw [HIE.out]))
  all_goals
    have hb : Below w.heap.size w (((w.alloc (.cells (opCells kind D A B C S p0 p1 q0 q1) 39)).alloc (.cells #[ptr d.bx, ptr d.bd] 44)).drew) := (((Below.refl _ w).alloc (Nat.le_refl _) _).alloc (by simp) _).drew
    obtain ⟨own2, psv2, hI2⟩ := HI.out.below HPD.out hb
    have CN := hid (HN.out (((w.alloc (.cells (opCells kind D A B C S p0 p1 q0 q1) 39)).alloc (.cells #[ptr d.bx, ptr d.bd] 44)).drew) own2 psv2 i d HD.out hI2)
    have HI2 := hid hI2
    clear hb hI2
    go_wp2_with (go_at_call 43; refine CN.out.mono ?_; intro e w3 hp; have he := hp.1; subst he; have HP := hid hp; clear hp)
    go_ret
    exact HI2.out.stepped HPD.out HD.out HP.out
end

/-- The program's calls of stage 2, beside the document's own. -/
structure Answers2 (PD : PDT) (G : World → Prop) : Prop extends Answers PD G where
  replace : ∀ s, PD.ok s → ∀ (A B C : Int) (S : ByteArray), S.size < lots → Ans PD G s 34 78 [.int .i64 A, .int .i64 B, .int .i64 C, .string S] (fun v => v) (fun v => v)
  split : ∀ s, PD.ok s → ∀ A B : Int, ∃ n : Int, Ans PD G s 30 79 [.int .i64 A, .int .i64 B] (fun v => .tuple #[.int .i64 n, v]) (fun v => .tuple #[.int .i64 n, v])
def Compares (PD : PDT) (G : World → Prop) : Prop := ∀ s, PD.ok s → ∀ p0 p1 q0 q1 : Int, ∃ n : Int, Ans PD G s 26 80 [.agg #[.int .i64 p0, .int .i64 p1], .agg #[.int .i64 q0, .int .i64 q1]] (fun v => .tuple #[.int .i64 n, v]) (fun v => .tuple #[.int .i64 n, v])

theorem steps_texts {PD : PDT} {G : World → Prop} (hA : Answers2 PD G) {Q : Nat → Prop} {w0 : World} {yb : Nat} (hG : ∀ W, Keeps Q w0 W → G W) (o : OpR) (ho : OpOk o) (hk : 7 ≤ o.kind ∧ o.kind ≤ 9) (hC : o.kind = 9 → Compares PD G) (W : World) (docs : List DocR) (hI : InvE PD Q w0 W yb docs) (hdl : docs.length < lots) :
    Calls Tryz.prog 15 #[ptr yb, o.val] W (StepPost PD Q w0 yb docs.length docs.length) := by
  obtain ⟨kind, D, A, B, C, S, p0, p1, q0, q1⟩ := o
  obtain ⟨d1, d2, hs⟩ := ho
  simp only at d1 d2 hs hk hC
  by_cases h0 : docs.length = 0
  · exact step_none hA.pd hI kind D A B C S p0 p1 q0 q1 (by omega) (.inl h0)
  refine step_texts hA.pd hI kind D A B C S p0 p1 q0 q1 hk.1 hk.2 (by omega) hdl d1 d2 (fun W1 own psv i d hd hI1 => ?_)
  have hp := hI1.pair hd
  have hwf := (hI1.doc i d hd).2.2
  have hg := hG _ hI1.fr
  have hc : kind = 7 ∨ kind = 8 ∨ kind = 9 := by omega
  rcases hc with rfl | rfl | rfl
  · exact texts_replace hA.pd hA.gb hp hg D A B C S p0 p1 q0 q1 (hA.replace d.s hwf A B C S hs)
  · exact texts_split hA.pd hA.gb hp hg D A B C S p0 p1 q0 q1 (hA.split d.s hwf A B)
  · exact texts_compare hA.pd hA.gb hp hg D A B C S p0 p1 q0 q1 (hC rfl d.s hwf p0 p1 q0 q1)

theorem steps_of2 {PD : PDT} {G : World → Prop} (hA : Answers2 PD G) (hC : Compares PD G) {Q : Nat → Prop} {w0 : World} {yb : Nat} (hG : ∀ W, Keeps Q w0 W → G W) : Steps PD Q w0 yb (fun k => 1 ≤ k ∧ k ≤ 9) := by
  intro o ho hk W docs hI hdl
  by_cases h6 : o.kind ≤ 6
  · exact steps_of hA.toAnswers hG o ho ⟨hk.1, h6⟩ W docs hI hdl
  · refine (steps_texts hA hG o ho ⟨by omega, hk.2⟩ (fun _ => hC) W docs hI hdl).mono ?_
    rintro e w' ⟨he, docs', h, hm, hl⟩
    exact ⟨he, docs', h, hm, by omega⟩

end Go.Proofs.YtabogkonklplcaaGreatDoor
