import Derived.Test.YtabogkonklplcaaGreatDoorV37
import Derived.Test.YtabogkonklplcaaGreatDoorV33
import Derived.Test.YtabogkonklplcaaGreatDoorV38
import Derived.Test.YtabogkonklplcaaGreatDoorV34
import Derived.Test.YtabogkonklplcaaGreatDoorV32
import Derived.Test.YtabogkonklplcaaGreatDoorV35

namespace Go.Proofs.YtabogkonklplcaaGreatDoor
open Go.RowKit
set_option linter.unusedSimpArgs false
set_option linter.unusedVariables false
section
variable {w : World} {F : Nat → Prop} {bx bf bl : Nat} {sv : Value} {s : List Nd} {rs : List Sp}
set_option maxRecDepth 20000 in
set_option maxHeartbeats 1000000 in
theorem lread_ok (hD : PDocAt w F bx bf bl sv ⟨s, rs⟩) (r : Nat) (x : Sp) (hx : rs[r]? = some x) (z : ByteArray)
    (hT : ∀ W, Below w.heap.size w W → Calls Tryz.prog 112 #[ptr bf, spV x] W fun e w' => e = .returned (.string z) ∧ Below W.heap.size W w') :
    Calls Tryz.prog 67 #[ptr bl, .int .i64 (r : Int)] w fun e w' => e = .returned (.tuple #[.string z, .nilIface]) ∧ Below w.heap.size w w' := by
  have C := hid (lspan_ok hD r x hx)
  have c0 : w.cell? ⟨bl, 0, none⟩ = some (ptr bf) := cell_of_heap hD.list 0
  have hll := heap_lt hD.list
  have HT := hid hT
  clear hD hx hT
  go_enter Tryz.func67, Tryz.ntmps67
  go_wp2_with (
       go_at_call 69
       refine C.out.mono ?_
       rintro e w1 ⟨rfl, hb1⟩
       have d0 := (hb1.cell (p := ⟨bl, 0, none⟩) hll).trans c0
       have hs1 := hb1.size
       have hne : ¬ bl = w1.heap.size := by omega
       have HB1 := hid (hb1.alloc hb1.size (.cells #[.int .i64 x.a, .int .i64 x.b, .int .i64 x.c, .int .i64 x.d] 79))
       have HS1 := hid (heap_alloc_new w1 (.cells #[.int .i64 x.a, .int .i64 x.b, .int .i64 x.c, .int .i64 x.d] 79))
       have D0 := hid ((Below.heap_alloc w1 (.cells #[.int .i64 x.a, .int .i64 x.b, .int .i64 x.c, .int .i64 x.d] 79) bl (by omega)))
       clear hb1)
  go_region_held3 (fun w' => w'.cell? ⟨bl, 0, none⟩ = some (ptr bf) ∧ w'.cell? ⟨w1.heap.size, 0, none⟩ = some (.int .i64 x.a) ∧ w'.cell? ⟨w1.heap.size, 1, none⟩ = some (.int .i64 x.b) ∧ w'.cell? ⟨w1.heap.size, 2, none⟩ = some (.int .i64 x.c) ∧ w'.cell? ⟨w1.heap.size, 3, none⟩ = some (.int .i64 x.d)) (first | exact KP.out | go_keep) ((
       go_at_call 112
       refine (HT.out _ HB1.out.drew).mono ?_
       rintro e w2 ⟨rfl, hb2'⟩
       have hb2 : Below (w1.alloc (.cells #[.int .i64 x.a, .int .i64 x.b, .int .i64 x.c, .int .i64 x.d] 79)).heap.size (w1.alloc (.cells #[.int .i64 x.a, .int .i64 x.b, .int .i64 x.c, .int .i64 x.d] 79)) w2 := ⟨hb2'.os, hb2'.tape, hb2'.output, hb2'.size, hb2'.block⟩
       have hs2 := (hb2.block w1.heap.size (by simp)).trans HS1.out
       have d2 : w2.cell? ⟨bl, 0, none⟩ = some (ptr bf) := by
         have hk : Keeps (fun _ => False) w1 w2 := ((Keeps.refl _ w1).alloc _).trans (Keeps.of_below hb2)
         exact hk.cell d0 (fun e => e)
       have KP := hid (And.intro d2 (And.intro (show w2.cell? ⟨w1.heap.size, 0, none⟩ = some (.int .i64 x.a) from cell_of_heap hs2 0) (And.intro (show w2.cell? ⟨w1.heap.size, 1, none⟩ = some (.int .i64 x.b) from cell_of_heap hs2 1) (And.intro (show w2.cell? ⟨w1.heap.size, 2, none⟩ = some (.int .i64 x.c) from cell_of_heap hs2 2) (show w2.cell? ⟨w1.heap.size, 3, none⟩ = some (.int .i64 x.d) from cell_of_heap hs2 3)))))
       have HB2 := hid (HB1.out.trans (hb2.mono HB1.out.size))
       clear hb2 hb2' hs2 d2))
  all_goals
    go_wp2
    go_ret2
    exact ⟨rfl, HB2.out⟩
end
set_option maxRecDepth 20000 in
set_option maxHeartbeats 1000000 in
theorem mread_of {w : World} {F : Nat → Prop} {bx : Nat} {s : List Nd} {rs : List Sp} (hg : GG w) (hP : PLies w F bx ⟨s, rs⟩) (r : Int) (z : ByteArray) (v : Value) (hv : v = .nilIface ∨ ∃ t u, v = .iface t u) {a y : Int} (hE : ErrOf v a y)
    (hS : ∀ bf bl sv, PDocAt w F bx bf bl sv ⟨s, rs⟩ → Calls Tryz.prog 67 #[ptr bl, .int .i64 r] w fun e w' => e = .returned (.tuple #[.string z, v]) ∧ Below w.heap.size w w') :
    Calls Tryz.prog 33 #[ptr bx, .int .i64 r] w (PLPost F w bx ⟨s, rs⟩ (.tuple #[.string z, errV a y])) := by
  have HP := hid hP
  obtain ⟨bf, bl, sv, hD⟩ := hP
  have C := hid (hS _ _ _ hD)
  have c1 : w.cell? ⟨bx, 1, none⟩ = some (ptr bl) := cell_of_heap hD.doc 1
  have E := hid (fun w1 (hb : Below w.heap.size w w1) => hE w1 (hg.below hb).1)
  clear hD hS hg hE
  rcases hv with rfl | ⟨t, u, rfl⟩
  all_goals
    go_enter Tryz.func33, Tryz.ntmps33
    go_wp2_with (first
      | (go_at_call 67; refine C.out.mono ?_; rintro e w1 ⟨rfl, hb1⟩
         have HB1 := hid hb1
         clear hb1)
      | (go_at_call 46; refine (E.out _ HB1.out).mono ?_; rintro e w2 ⟨rfl, hb2⟩
         have HB2 := hid (HB1.out.trans (hb2.mono HB1.out.size))
         clear hb2))
    go_ret2
    exact ⟨rfl, HP.out.after HB2.out⟩
end Go.Proofs.YtabogkonklplcaaGreatDoor

namespace Go.Proofs.YtabogkonklplcaaGreatDoor
open Go.RowKit
set_option linter.unusedSimpArgs false
set_option linter.unusedVariables false
section
variable {s : List Nd} {rs : List Sp}
theorem tops_there (wf : WF s) : ∃ tf : Nat → Nat, ∀ m, m < s.length → IsTop s m (tf m) := by
  have htf : ∀ m, ∃ t, m < s.length → IsTop s m t := fun m => by
    by_cases hm : m < s.length
    · obtain ⟨t, ht⟩ := top_there wf m hm; exact ⟨t, fun _ => ht⟩
    · exact ⟨0, fun h => absurd h hm⟩
  exact Classical.axiomOfChoice htf
theorem pcompare_one (wf : WF s) {h : Nat → Nat} {B : Nat} (u : Up s h B) (n k n2 k2 t : Nat) (hn : n < s.length) (hk : k ≤ sizeAt s n) (hn2 : n2 < s.length) (hk2 : k2 ≤ sizeAt s n2) (ta : IsTop s n t) (tb : IsTop s n2 t)
    (w : World) (F : Nat → Prop) (bx : Nat) (hg : GG w) (hP : PLies w F bx ⟨s, rs⟩) :
    Calls Tryz.prog 26 #[ptr bx, .agg #[.int .i64 (n : Int), .int .i64 (k : Int)], .agg #[.int .i64 (n2 : Int), .int .i64 (k2 : Int)]] w
      (PLPost F w bx ⟨s, rs⟩ (.tuple #[.int .i64 (cmpB (decide (wh (plF s (B + 1) t) (n, k) < wh (plF s (B + 1) t) (n2, k2))) (decide (wh (plF s (B + 1) t) (n2, k2) < wh (plF s (B + 1) t) (n, k)))), errV 0 0])) := by
  obtain ⟨tf, htf⟩ := tops_there wf
  have e1 := ta.one (htf n hn)
  have e2 := tb.one (htf n2 hn2)
  have he : tf n = tf n2 := by omega
  obtain ⟨n', k', e3, e4, _, _, hf0, PA⟩ := place_good wf n k 0 0 (placeFault_ok ⟨n, k, rfl, rfl, hn, hk⟩) rfl
  obtain ⟨n2', k2', e5, e6, _, _, hg0, PB⟩ := place_good wf n2 k2 0 0 (placeFault_ok ⟨n2, k2, rfl, rfl, hn2, hk2⟩) rfl
  obtain rfl : n = n' := by omega
  obtain rfl : k = k' := by omega
  obtain rfl : n2 = n2' := by omega
  obtain rfl : k2 = k2' := by omega
  obtain ⟨qa, ha⟩ := where_there (plF s (B + 1) t) (n, k)
  obtain ⟨qb, hb⟩ := where_there (plF s (B + 1) t) (n2, k2)
  have wa' := ha.wh
  have wb' := hb.wh
  subst wa' wb'
  refine mcompare_of hg hP (.inl rfl) n k n2 k2 (errOf_nil 0) (fun W F' bf h => ?_)
  have h' := h
  obtain ⟨bn, cap, pn, h⟩ := h
  refine (tcompare_one wf h' n k n2 k2 tf htf hn hn2 he (fun W hb => PA W _ bf bn cap pn (h.below hb)) (fun W hb => PB W _ bf bn cap pn (h.below hb))).mono ?_
  rintro e w' ⟨l, l2, wa, wb, rfl, hbl⟩
  refine ⟨?_, hbl⟩
  rw [← e1] at wa wb
  rw [cmp_ways wf u wa wb hk hk2 ha hb]
  by_cases c1 : wh (plF s (B + 1) t) (n, k) < wh (plF s (B + 1) t) (n2, k2)
  · rw [if_pos c1, decide_eq_true c1]; rfl
  · by_cases c2 : wh (plF s (B + 1) t) (n2, k2) < wh (plF s (B + 1) t) (n, k)
    · rw [if_neg c1, if_pos c2, decide_eq_false c1, decide_eq_true c2]; rfl
    · rw [if_neg c1, if_neg c2, decide_eq_false c1, decide_eq_false c2]; rfl
theorem pcompare_roots (wf : WF s) (n k n2 k2 t t2 : Nat) (hn : n < s.length) (hk : k ≤ sizeAt s n) (hn2 : n2 < s.length) (hk2 : k2 ≤ sizeAt s n2) (ta : IsTop s n t) (tb : IsTop s n2 t2) (hne : t ≠ t2)
    (w : World) (F : Nat → Prop) (bx : Nat) (hg : GG w) (hP : PLies w F bx ⟨s, rs⟩) :
    Calls Tryz.prog 26 #[ptr bx, .agg #[.int .i64 (n : Int), .int .i64 (k : Int)], .agg #[.int .i64 (n2 : Int), .int .i64 (k2 : Int)]] w
      (PLPost F w bx ⟨s, rs⟩ (.tuple #[.int .i64 0, errV n2 9])) := by
  obtain ⟨tf, htf⟩ := tops_there wf
  have e1 := ta.one (htf n hn)
  have e2 := tb.one (htf n2 hn2)
  have he : tf n ≠ tf n2 := by omega
  obtain ⟨n', k', e3, e4, _, _, hf0, PA⟩ := place_good wf n k 0 0 (placeFault_ok ⟨n, k, rfl, rfl, hn, hk⟩) rfl
  obtain ⟨n2', k2', e5, e6, _, _, hg0, PB⟩ := place_good wf n2 k2 0 0 (placeFault_ok ⟨n2, k2, rfl, rfl, hn2, hk2⟩) rfl
  obtain rfl : n = n' := by omega
  obtain rfl : k = k' := by omega
  obtain rfl : n2 = n2' := by omega
  obtain rfl : k2 = k2' := by omega
  refine mcompare_of hg hP (.inr ⟨_, rfl⟩) n k n2 k2 (errOf_P n2 9 (by decide)) (fun W F' bf h => ?_)
  have h' := h
  obtain ⟨bn, cap, pn, h⟩ := h
  exact tcompare_roots wf h' n k n2 k2 tf htf hn hn2 he (fun W hb => PA W _ bf bn cap pn (h.below hb)) (fun W hb => PB W _ bf bn cap pn (h.below hb))
theorem pcompare_bad (wf : WF s) (p0 p1 q0 q1 : Int) (hp : ¬ PlOk s p0 p1)
    (w : World) (F : Nat → Prop) (bx : Nat) (hg : GG w) (hP : PLies w F bx ⟨s, rs⟩) :
    ∃ a y : Int, y ≠ 0 ∧ Calls Tryz.prog 26 #[ptr bx, .agg #[.int .i64 p0, .int .i64 p1], .agg #[.int .i64 q0, .int .i64 q1]] w
      (PLPost F w bx ⟨s, rs⟩ (.tuple #[.int .i64 0, errV a y])) := by
  obtain ⟨f0, f1, hf⟩ : ∃ a y, placeFault s p0 p1 = (a, y) := ⟨_, _, rfl⟩
  by_cases h1 : f1 = 0
  · obtain ⟨n, k, rfl, rfl, hn, hk, _, _⟩ := place_good wf p0 p1 f0 f1 hf h1
    exact absurd ⟨n, k, rfl, rfl, hn, hk⟩ hp
  · obtain ⟨u, hE, PA⟩ := place_bad wf p0 p1 f0 f1 hf h1
    refine ⟨f0, f1, h1, mcompare_of hg hP (.inr ⟨u, rfl⟩) p0 p1 q0 q1 hE (fun W F' bf h => ?_)⟩
    obtain ⟨bn, cap, pn, h⟩ := h
    exact (tcompare_a bf p0 p1 q0 q1 u (fun W hb => PA W _ bf bn cap pn (h.below hb)))
theorem pshow_yes (wf : WF s) {h : Nat → Nat} {H : Nat} (u : Up s h H) (i : Nat) (hi : i < s.length) (w : World) (F : Nat → Prop) (bx : Nat) (hg : GG w) (hP : PLies w F bx ⟨s, rs⟩) :
    Calls Tryz.prog 55 #[ptr bx, .int .i64 (i : Int)] w (PLPost F w bx ⟨s, rs⟩ (.tuple #[.string (shownF s (h i + 1) i), errV 0 0])) :=
  mshow_of hg hP i (errOf_nil 0) (fun F' bf hh => tshow_yes wf hh i hi _ (shown_lim wf u (k := h i + 1) (n := i) (by omega)))
theorem pread_yes (wf : WF s) {h : Nat → Nat} {B : Nat} (u : Up s h B) (r a b c d t i j : Nat) (x : Sp) (hx : rs[r]? = some x) (S : SpAt s B x a b c d t i j) (w : World) (F : Nat → Prop) (bx : Nat) (hg : GG w) (hP : PLies w F bx ⟨s, rs⟩) :
    Calls Tryz.prog 33 #[ptr bx, .int .i64 (r : Int)] w (PLPost F w bx ⟨s, rs⟩ (.tuple #[.string (catB (readR s (plF s (B + 1) t) i (j - i))), errV 0 0])) := by
  obtain ⟨rfl, ha, hc, ta, tc, hb, hd, hi, hj, hij⟩ := S
  rw [read_same wf ta.lt hi hj hij]
  refine mread_of hg hP r _ _ (.inl rfl) (errOf_nil 0) (fun bf bl sv h => lread_ok h r _ hx _ (fun W hB => ?_))
  obtain ⟨bn, cap, pn, hf⟩ := (h.below hB).nodes
  exact tread_any wf u hf a b c d t ha hc ta tc hb hd
end
end Go.Proofs.YtabogkonklplcaaGreatDoor

namespace Go.Proofs.YtabogkonklplcaaGreatDoor
open Go.RowKit
set_option linter.unusedSimpArgs false
set_option linter.unusedVariables false
section
variable {s : List Nd} {rs : List Sp}
theorem pstart_ok {V : List Nd → Sp → Prop} (hV : Lives V) (wf : WF s) {h : Nat → Nat} {B : Nat} (u : Up s h B) (h6 : rs.length ≤ 6) (hrs : ∀ z ∈ rs, V s z) (r n k : Nat) (x : Sp) (hx : rs[r]? = some x) (hn : n < s.length) (hk : k ≤ sizeAt s n) :
    ∃ z : Sp, z.a = (n : Int) ∧ z.b = (k : Int) ∧ V s z ∧ (∀ n2 k2 t : Nat, x.c = (n2 : Int) → x.d = (k2 : Int) → IsTop s n t → IsTop s n2 t → wh (plF s (B + 1) t) (n, k) ≤ wh (plF s (B + 1) t) (n2, k2) → z = ⟨n, k, x.c, x.d⟩) ∧
      ∀ (w : World) (F : Nat → Prop) (bx : Nat), GG w → PLies w F bx ⟨s, rs⟩ → Calls Tryz.prog 31 #[ptr bx, .int .i64 (r : Int), .agg #[.int .i64 (n : Int), .int .i64 (k : Int)]] w (PLPost F w bx ⟨s, rs.set r z⟩ (errV 0 0)) := by
  have hpx := (hV.place (hrs x (List.mem_of_getElem? hx))).2
  have hfx := placeFault_ok hpx
  obtain ⟨n2, k2, hxa, hxb, hn2, hk2, hg0, PB⟩ := place_good wf x.c x.d 0 0 hfx rfl
  obtain ⟨n', k', e3, e4, _, _, hf0, PA⟩ := place_good wf n k 0 0 (placeFault_ok ⟨n, k, rfl, rfl, hn, hk⟩) rfl
  obtain rfl : n = n' := by omega
  obtain rfl : k = k' := by omega
  obtain ⟨tf, htf⟩ := tops_there wf
  by_cases he : tf n = tf n2
  · obtain ⟨qa, ha⟩ := where_there (plF s (B + 1) (tf n2)) (n2, k2)
    obtain ⟨qb, hb⟩ := where_there (plF s (B + 1) (tf n2)) (n, k)
    have key : ∀ (l l2 : List Nat), Way s (tf n) n l → Way s (tf n) n2 l2 → lexC (l ++ [k]) (l2 ++ [k2]) = if qb < qa then -1 else if qa < qb then 1 else 0 := fun l l2 wa wb =>
      cmp_ways wf u wa wb (by first | exact hk | exact hk2) (by first | exact hk | exact hk2) (by rw [he]; exact hb) (by rw [he]; exact ha)
    by_cases hlt : qa < qb
    · refine ⟨⟨n, k, n, k⟩, rfl, rfl, hV.one wf ⟨n, k, rfl, rfl, hn, hk⟩, (fun n3 k3 t e1 e2 t1 t2 hle => by exfalso; obtain rfl : n3 = n2 := (by omega); obtain rfl : k3 = k2 := (by omega); have q1 := t1.one (htf _ hn); have q2 := t2.one (htf _ hn2); rw [q2] at hle; rw [← ha.wh, ← hb.wh] at hle; omega), ?_⟩
      · intro w F bx hg hP
        refine mstart_ok hP r n k (fun W bf bl sv hD => ?_)
        refine (lstart_of hD r x hx n k .nilIface (.inl rfl) (Q := fun W0 w' => Keeps F W0 w' ∧ PDocAt w' (grow F W0) bx bf bl sv ⟨s, rs.set r ⟨n, k, n, k⟩⟩) (fun W0 hb0 => ?_)).mono ?_
        · refine lset_gt (hD.below hb0) r x hx _ _ _ _ n k 1 (by decide) (fun W1 hb1 => ?_)
          have hfor := ((hD.below hb0).below hb1).nodes
          have hf' := hfor
          obtain ⟨bn, cap, pn, h⟩ := hfor
          rw [hxa, hxb]
          refine (tcompare_one wf hf' n k n2 k2 tf htf hn hn2 he (fun W hb => PA W _ bf bn cap pn (h.below hb)) (fun W hb => PB W _ bf bn cap pn (h.below hb))).mono ?_
          rintro e w' ⟨l, l2, wa, wb, rfl, hbl⟩
          refine ⟨?_, hbl⟩
          rw [key l l2 wa wb, if_neg (by omega), if_pos hlt]
        · rintro e w' ⟨rfl, W0, hb0, hk0, hd0⟩
          exact ⟨rfl, (Keeps.of_below hb0).trans (hk0.mono (fun b _ e => .inl e)), hd0.widen (fun b h => h.imp id (fun h => Nat.le_trans hb0.size h))⟩
    · refine ⟨⟨n, k, n2, k2⟩, rfl, rfl, ?_, (fun n3 k3 t e1 e2 t1 t2 hle => by rw [hxa, hxb]), ?_⟩
      · have hstart : PlOk s (n : Int) (k : Int) := ⟨n, k, rfl, rfl, by first | exact hn | exact hn2, by first | exact hk | exact hk2⟩
        have hend : PlOk s (n2 : Int) (k2 : Int) := ⟨n2, k2, rfl, rfl, by first | exact hn | exact hn2, by first | exact hk | exact hk2⟩
        have ts := htf n (by first | exact hn | exact hn2)
        have te := htf n2 (by first | exact hn | exact hn2)
        rw [← he] at te
        obtain ⟨l, wl⟩ := way_there wf ts (by first | exact hn | exact hn2)
        obtain ⟨l2, wl2⟩ := way_there wf te (by first | exact hn | exact hn2)
        refine hV.two wf hstart hend ts wl wl2 ?_
        rw [key l l2 wl wl2]
        split
        · decide
        · first | decide | (rw [if_neg hlt]; decide)
      · intro w F bx hg hP
        refine mstart_ok hP r n k (fun W bf bl sv hD => ?_)
        refine (lstart_of hD r x hx n k .nilIface (.inl rfl) (Q := fun W0 w' => Keeps F W0 w' ∧ PDocAt w' (grow F W0) bx bf bl sv ⟨s, rs.set r ⟨n, k, n2, k2⟩⟩) (fun W0 hb0 => ?_)).mono ?_
        · have hcm := lset_le (hD.below hb0) r x hx (n : Int) (k : Int) x.c x.d n k (if qb < qa then -1 else 0) (by split <;> decide) (fun W1 hb1 => ?_)
          · refine hcm.mono ?_
            rintro e w' ⟨rfl, hk0, hd0⟩
            rw [hxa, hxb] at hd0
            exact ⟨rfl, hk0, hd0⟩
          have hfor := ((hD.below hb0).below hb1).nodes
          have hf' := hfor
          obtain ⟨bn, cap, pn, h⟩ := hfor
          rw [hxa, hxb]
          refine (tcompare_one wf hf' n k n2 k2 tf htf hn hn2 he (fun W hb => PA W _ bf bn cap pn (h.below hb)) (fun W hb => PB W _ bf bn cap pn (h.below hb))).mono ?_
          rintro e w' ⟨l, l2, wa, wb, rfl, hbl⟩
          refine ⟨?_, hbl⟩
          rw [key l l2 wa wb, if_neg hlt]
        · rintro e w' ⟨rfl, W0, hb0, hk0, hd0⟩
          exact ⟨rfl, (Keeps.of_below hb0).trans (hk0.mono (fun b _ e => .inl e)), hd0.widen (fun b h => h.imp id (fun h => Nat.le_trans hb0.size h))⟩
  · refine ⟨⟨n, k, n, k⟩, rfl, rfl, hV.one wf ⟨n, k, rfl, rfl, hn, hk⟩, (fun n3 k3 t e1 e2 t1 t2 hle => by exfalso; obtain rfl : n3 = n2 := (by omega); obtain rfl : k3 = k2 := (by omega); have q1 := t1.one (htf _ hn); have q2 := t2.one (htf _ hn2); exact he (by omega)), ?_⟩
    · intro w F bx hg hP
      refine mstart_ok hP r n k (fun W bf bl sv hD => ?_)
      refine (lstart_of hD r x hx n k .nilIface (.inl rfl) (Q := fun W0 w' => Keeps F W0 w' ∧ PDocAt w' (grow F W0) bx bf bl sv ⟨s, rs.set r ⟨n, k, n, k⟩⟩) (fun W0 hb0 => ?_)).mono ?_
      · refine lset_roots (hD.below hb0) r x hx _ _ _ _ n k n2 (fun W1 hb1 => ?_)
        have hfor := ((hD.below hb0).below hb1).nodes
        have hf' := hfor
        obtain ⟨bn, cap, pn, h⟩ := hfor
        rw [hxa, hxb]
        exact tcompare_roots wf hf' n k n2 k2 tf htf hn hn2 he (fun W hb => PA W _ bf bn cap pn (h.below hb)) (fun W hb => PB W _ bf bn cap pn (h.below hb))
      · rintro e w' ⟨rfl, W0, hb0, hk0, hd0⟩
        exact ⟨rfl, (Keeps.of_below hb0).trans (hk0.mono (fun b _ e => .inl e)), hd0.widen (fun b h => h.imp id (fun h => Nat.le_trans hb0.size h))⟩
theorem pend_ok {V : List Nd → Sp → Prop} (hV : Lives V) (wf : WF s) {h : Nat → Nat} {B : Nat} (u : Up s h B) (h6 : rs.length ≤ 6) (hrs : ∀ z ∈ rs, V s z) (r n k : Nat) (x : Sp) (hx : rs[r]? = some x) (hn : n < s.length) (hk : k ≤ sizeAt s n) :
    ∃ z : Sp, z.c = (n : Int) ∧ z.d = (k : Int) ∧ V s z ∧ (∀ n2 k2 t : Nat, x.a = (n2 : Int) → x.b = (k2 : Int) → IsTop s n t → IsTop s n2 t → wh (plF s (B + 1) t) (n2, k2) ≤ wh (plF s (B + 1) t) (n, k) → z = ⟨x.a, x.b, n, k⟩) ∧
      ∀ (w : World) (F : Nat → Prop) (bx : Nat), GG w → PLies w F bx ⟨s, rs⟩ → Calls Tryz.prog 32 #[ptr bx, .int .i64 (r : Int), .agg #[.int .i64 (n : Int), .int .i64 (k : Int)]] w (PLPost F w bx ⟨s, rs.set r z⟩ (errV 0 0)) := by
  have hpx := (hV.place (hrs x (List.mem_of_getElem? hx))).1
  have hfx := placeFault_ok hpx
  obtain ⟨n2, k2, hxa, hxb, hn2, hk2, hg0, PB⟩ := place_good wf x.a x.b 0 0 hfx rfl
  obtain ⟨n', k', e3, e4, _, _, hf0, PA⟩ := place_good wf n k 0 0 (placeFault_ok ⟨n, k, rfl, rfl, hn, hk⟩) rfl
  obtain rfl : n = n' := by omega
  obtain rfl : k = k' := by omega
  obtain ⟨tf, htf⟩ := tops_there wf
  by_cases he : tf n2 = tf n
  · obtain ⟨qa, ha⟩ := where_there (plF s (B + 1) (tf n)) (n, k)
    obtain ⟨qb, hb⟩ := where_there (plF s (B + 1) (tf n)) (n2, k2)
    have key : ∀ (l l2 : List Nat), Way s (tf n2) n2 l → Way s (tf n2) n l2 → lexC (l ++ [k2]) (l2 ++ [k]) = if qb < qa then -1 else if qa < qb then 1 else 0 := fun l l2 wa wb =>
      cmp_ways wf u wa wb (by first | exact hk | exact hk2) (by first | exact hk | exact hk2) (by rw [he]; exact hb) (by rw [he]; exact ha)
    by_cases hlt : qa < qb
    · refine ⟨⟨n, k, n, k⟩, rfl, rfl, hV.one wf ⟨n, k, rfl, rfl, hn, hk⟩, (fun n3 k3 t e1 e2 t1 t2 hle => by exfalso; obtain rfl : n3 = n2 := (by omega); obtain rfl : k3 = k2 := (by omega); have q1 := t1.one (htf _ hn); have q2 := t2.one (htf _ hn2); rw [q1] at hle; rw [← ha.wh, ← hb.wh] at hle; omega), ?_⟩
      · intro w F bx hg hP
        refine mend_ok hP r n k (fun W bf bl sv hD => ?_)
        refine (lend_of hD r x hx n k .nilIface (.inl rfl) (Q := fun W0 w' => Keeps F W0 w' ∧ PDocAt w' (grow F W0) bx bf bl sv ⟨s, rs.set r ⟨n, k, n, k⟩⟩) (fun W0 hb0 => ?_)).mono ?_
        · refine lset_gt (hD.below hb0) r x hx _ _ _ _ n k 1 (by decide) (fun W1 hb1 => ?_)
          have hfor := ((hD.below hb0).below hb1).nodes
          have hf' := hfor
          obtain ⟨bn, cap, pn, h⟩ := hfor
          rw [hxa, hxb]
          refine (tcompare_one wf hf' n2 k2 n k tf htf hn2 hn he (fun W hb => PB W _ bf bn cap pn (h.below hb)) (fun W hb => PA W _ bf bn cap pn (h.below hb))).mono ?_
          rintro e w' ⟨l, l2, wa, wb, rfl, hbl⟩
          refine ⟨?_, hbl⟩
          rw [key l l2 wa wb, if_neg (by omega), if_pos hlt]
        · rintro e w' ⟨rfl, W0, hb0, hk0, hd0⟩
          exact ⟨rfl, (Keeps.of_below hb0).trans (hk0.mono (fun b _ e => .inl e)), hd0.widen (fun b h => h.imp id (fun h => Nat.le_trans hb0.size h))⟩
    · refine ⟨⟨n2, k2, n, k⟩, rfl, rfl, ?_, (fun n3 k3 t e1 e2 t1 t2 hle => by rw [hxa, hxb]), ?_⟩
      · have hstart : PlOk s (n2 : Int) (k2 : Int) := ⟨n2, k2, rfl, rfl, by first | exact hn | exact hn2, by first | exact hk | exact hk2⟩
        have hend : PlOk s (n : Int) (k : Int) := ⟨n, k, rfl, rfl, by first | exact hn | exact hn2, by first | exact hk | exact hk2⟩
        have ts := htf n2 (by first | exact hn | exact hn2)
        have te := htf n (by first | exact hn | exact hn2)
        rw [← he] at te
        obtain ⟨l, wl⟩ := way_there wf ts (by first | exact hn | exact hn2)
        obtain ⟨l2, wl2⟩ := way_there wf te (by first | exact hn | exact hn2)
        refine hV.two wf hstart hend ts wl wl2 ?_
        rw [key l l2 wl wl2]
        split
        · decide
        · first | decide | (rw [if_neg hlt]; decide)
      · intro w F bx hg hP
        refine mend_ok hP r n k (fun W bf bl sv hD => ?_)
        refine (lend_of hD r x hx n k .nilIface (.inl rfl) (Q := fun W0 w' => Keeps F W0 w' ∧ PDocAt w' (grow F W0) bx bf bl sv ⟨s, rs.set r ⟨n2, k2, n, k⟩⟩) (fun W0 hb0 => ?_)).mono ?_
        · have hcm := lset_le (hD.below hb0) r x hx x.a x.b (n : Int) (k : Int) n k (if qb < qa then -1 else 0) (by split <;> decide) (fun W1 hb1 => ?_)
          · refine hcm.mono ?_
            rintro e w' ⟨rfl, hk0, hd0⟩
            rw [hxa, hxb] at hd0
            exact ⟨rfl, hk0, hd0⟩
          have hfor := ((hD.below hb0).below hb1).nodes
          have hf' := hfor
          obtain ⟨bn, cap, pn, h⟩ := hfor
          rw [hxa, hxb]
          refine (tcompare_one wf hf' n2 k2 n k tf htf hn2 hn he (fun W hb => PB W _ bf bn cap pn (h.below hb)) (fun W hb => PA W _ bf bn cap pn (h.below hb))).mono ?_
          rintro e w' ⟨l, l2, wa, wb, rfl, hbl⟩
          refine ⟨?_, hbl⟩
          rw [key l l2 wa wb, if_neg hlt]
        · rintro e w' ⟨rfl, W0, hb0, hk0, hd0⟩
          exact ⟨rfl, (Keeps.of_below hb0).trans (hk0.mono (fun b _ e => .inl e)), hd0.widen (fun b h => h.imp id (fun h => Nat.le_trans hb0.size h))⟩
  · refine ⟨⟨n, k, n, k⟩, rfl, rfl, hV.one wf ⟨n, k, rfl, rfl, hn, hk⟩, (fun n3 k3 t e1 e2 t1 t2 hle => by exfalso; obtain rfl : n3 = n2 := (by omega); obtain rfl : k3 = k2 := (by omega); have q1 := t1.one (htf _ hn); have q2 := t2.one (htf _ hn2); exact he (by omega)), ?_⟩
    · intro w F bx hg hP
      refine mend_ok hP r n k (fun W bf bl sv hD => ?_)
      refine (lend_of hD r x hx n k .nilIface (.inl rfl) (Q := fun W0 w' => Keeps F W0 w' ∧ PDocAt w' (grow F W0) bx bf bl sv ⟨s, rs.set r ⟨n, k, n, k⟩⟩) (fun W0 hb0 => ?_)).mono ?_
      · refine lset_roots (hD.below hb0) r x hx _ _ _ _ n k n (fun W1 hb1 => ?_)
        have hfor := ((hD.below hb0).below hb1).nodes
        have hf' := hfor
        obtain ⟨bn, cap, pn, h⟩ := hfor
        rw [hxa, hxb]
        exact tcompare_roots wf hf' n2 k2 n k tf htf hn2 hn he (fun W hb => PB W _ bf bn cap pn (h.below hb)) (fun W hb => PA W _ bf bn cap pn (h.below hb))
      · rintro e w' ⟨rfl, W0, hb0, hk0, hd0⟩
        exact ⟨rfl, (Keeps.of_below hb0).trans (hk0.mono (fun b _ e => .inl e)), hd0.widen (fun b h => h.imp id (fun h => Nat.le_trans hb0.size h))⟩
end
end Go.Proofs.YtabogkonklplcaaGreatDoor

namespace Go.Proofs.YtabogkonklplcaaGreatDoor
open Go.RowKit
set_option linter.unusedSimpArgs false
set_option linter.unusedVariables false
structure Desk (w0 : World) (F : Nat → Prop) (w : World) (bw bx : Nat) (n mine : Int) (st : St) : Prop where
  new : w0.heap.size ≤ bw
  at_ : w.heap[bw]? = some (.cells #[ptr bx, .int .i64 n, .int .i64 mine] 64 (0, 0))
  out : ¬ F bw
  ge : ∀ b, F b → w0.heap.size ≤ b
  doc : PLies w F bx st
  low : Below w0.heap.size w0 w
theorem Desk.below {w0 w W : World} {F : Nat → Prop} {bw bx : Nat} {n mine : Int} {st : St} (h : Desk w0 F w bw bx n mine st) (hb : Below w.heap.size w W) : Desk w0 F W bw bx n mine st :=
  ⟨h.new, (hb.block _ (heap_lt h.at_)).trans h.at_, h.out, h.ge, h.doc.keeps (G := fun _ => False) (Keeps.of_below hb) (fun _ _ e => e), h.low.trans (hb.mono h.low.size)⟩
theorem Desk.next {w0 w w' : World} {F : Nat → Prop} {bw bx : Nat} {n mine : Int} {st st' : St} (h : Desk w0 F w bw bx n mine st) (hk : Keeps F w w') (hl : PLies w' (grow F w) bx st') : Desk w0 (grow F w) w' bw bx n mine st' := by
  have hz := h.low.size
  have hlt := heap_lt h.at_
  refine ⟨h.new, (hk.block _ hlt h.out).trans h.at_, fun e => e.elim h.out (fun e => by omega), fun b e => e.elim (h.ge b) (fun e => by omega), hl, ?_⟩
  have : Keeps (fun _ => False) w0 w' := (Keeps.of_below h.low).trans (hk.mono (fun b _ e => .inr (h.ge b e)))
  exact this.below
theorem Desk.wider {w0 w : World} {F G : Nat → Prop} {bw bx : Nat} {n mine : Int} {st : St} (h : Desk w0 F w bw bx n mine st) (hG : ∀ b, F b → G b) (h1 : ¬ G bw) (h2 : ∀ b, G b → w0.heap.size ≤ b) : Desk w0 G w bw bx n mine st :=
  ⟨h.new, h.at_, h1, h2, h.doc.wider hG, h.low⟩
theorem Desk.gg {w0 w : World} {F : Nat → Prop} {bw bx : Nat} {n mine : Int} {st : St} (h : Desk w0 F w bw bx n mine st) (hg : GG w0) : GG w := hg.below h.low
theorem Desk.cells {w0 w : World} {F : Nat → Prop} {bw bx : Nat} {n mine : Int} {st : St} (h : Desk w0 F w bw bx n mine st) : w.cell? ⟨bw, 0, none⟩ = some (ptr bx) ∧ w.cell? ⟨bw, 1, none⟩ = some (.int .i64 n) ∧ w.cell? ⟨bw, 2, none⟩ = some (.int .i64 mine) :=
  ⟨cell_of_heap h.at_ 0, cell_of_heap h.at_ 1, cell_of_heap h.at_ 2⟩
section
variable {s : List Nd} {rs : List Sp}
set_option maxRecDepth 20000 in
set_option maxHeartbeats 2000000 in
theorem size_at {w0 w : World} {F : Nat → Prop} {bw bx : Nat} {N M : Int} (hg : GG w0) (wf : WF s) (hD : Desk w0 F w bw bx N M ⟨s, rs⟩) (n : Nat) (hn : n < s.length) :
    Calls Tryz.prog 28 #[ptr bw, .int .i64 (n : Int)] w fun e w' => e = .returned (.int .i64 (sizeAt s n : Int)) ∧ Keeps F w w' ∧ Desk w0 (grow F w) w' bw bx N M ⟨s, rs⟩ := by
  have hs40 : sizeAt s n ≤ 40 := by
    rw [sizeAt_eq (List.getElem?_eq_getElem hn)]
    exact sizeN_le wf (List.getElem?_eq_getElem hn)
  have hlt := heap_lt hD.at_
  have hz0 := hD.low.size
  have hD0 : Desk w0 (grow F w) w bw bx N M ⟨s, rs⟩ := hD.wider (fun b e => .inl e) (fun e => e.elim hD.out (fun e => by omega)) (fun b e => e.elim (hD.ge b) (fun e => by omega))
  have hcap := wf.cap
  have H := hid (And.intro hg (And.intro wf (And.intro hD hD0)))
  clear hg wf hD hD0
  go_enter Tryz.func28, Tryz.ntmps28
  go_wp2
  go_loopw [5] (fun t5 wr => ∃ k : Nat, t5 = .int .i64 (k : Int) ∧ k ≤ sizeAt s n ∧ Keeps F w wr ∧ Desk w0 (grow F w) wr bw bx N M ⟨s, rs⟩) (fun t _ => leftN 60 t)
  case atStart => exact ⟨0, rfl, Nat.zero_le _, Keeps.refl _ _, H.out.2.2.2⟩
  case round =>
    obtain ⟨k, rfl, hk, hkw, hDr⟩ := hrel
    obtain ⟨hg, wf, hD, _⟩ := H.out
    have hk60 : (k : Int) < 60 := by omega
    obtain ⟨d0, d1, d2⟩ := hDr.cells
    have hgr := hDr.gg hg
    have ek : ((k + 1 : Nat) : Int) = (k : Int) + 1 := by omega
    have key : ∀ (w2 : World) (v : Value) (e : Ending), PLPost (grow F w) wr bx ⟨s, rs⟩ v e w2 → Keeps F w w2 ∧ Desk w0 (grow F w) w2 bw bx N M ⟨s, rs⟩ := by
      rintro w2 v e ⟨_, h2, h3⟩
      have hz := hkw.size
      have hn2 := hDr.next h2 h3
      refine ⟨hkw.trans (h2.mono (fun b _ e => e)), hn2.wider (fun b e => ?_) hDr.out hDr.ge⟩
      rcases e with e | e
      · exact e
      · exact .inr (by omega)
    by_cases hlt2 : k < sizeAt s n
    · obtain ⟨h, B, u⟩ := wf.up
      obtain ⟨t, ta⟩ := top_there wf n hn
      have C := pcompare_one (rs := rs) wf u n (k + 1) n 0 t hn (by omega) hn (Nat.zero_le _) ta ta wr (grow F w) bx hgr hDr.doc
      rw [ek, show errV 0 0 = .nilIface from by simp [errV]] at C
      have CC := hid C
      have KEY := hid key
      clear C key hDr hgr hkw hg wf hD
      go_wp2_with (
        go_at_call 26
        refine CC.out.mono ?_
        rintro e w2 hp
        have hp' := hp.1
        subst hp'
        have H2 := hid (KEY.out w2 _ _ hp)
        clear hp)
      go_roundw
      case rel => exact ⟨k + 1, by simp, by omega, H2.out.1, H2.out.2⟩
      case measure =>
        show 60 - ((k : Int) + 1).toNat < 60 - ((k : Int)).toNat
        omega
    · obtain rfl : k = sizeAt s n := by omega
      obtain ⟨a, y, hy, C⟩ := pcompare_bad (rs := rs) wf (n : Int) ((sizeAt s n : Int) + 1) (n : Int) 0 (fun ⟨n', k', e1, e2, h1, h2⟩ => by
        obtain rfl : n = n' := by omega
        omega) wr (grow F w) bx hgr hDr.doc
      rw [show errV a y = .iface 32 (.agg #[.int .i64 a, .int .i64 y]) from by simp [errV, hy]] at C
      have CC := hid C
      have KEY := hid key
      obtain ⟨m, hm⟩ : ∃ m, sizeAt s n = m := ⟨_, rfl⟩
      rw [hm] at CC hk60 ⊢
      have HM := hid hm
      clear C key hDr hgr hkw hg wf hD hk hlt2 hs40 hm ek
      go_wp2_with (
        go_at_call 26
        refine CC.out.mono ?_
        rintro e w2 hp
        have hp' := hp.1
        subst hp'
        have H2 := hid (KEY.out w2 _ _ hp)
        clear hp)
      go_ret
      exact ⟨by first | (rw [HM.out]; rfl) | (simp; rw [HM.out]) | (have := HM.out; simp [this]), H2.out.1, H2.out.2⟩
end
end Go.Proofs.YtabogkonklplcaaGreatDoor

namespace Go.Proofs.YtabogkonklplcaaGreatDoor
open Go.RowKit
set_option linter.unusedSimpArgs false
set_option linter.unusedVariables false
def I64 (c : Int) : Prop := -9223372036854775808 ≤ c ∧ c ≤ 9223372036854775807
set_option maxRecDepth 20000 in
set_option maxHeartbeats 1000000 in
theorem pick_at (c : Int) (hc : I64 c) (n : Nat) (hn : 0 < n) (hn2 : n < 1000) (w : World) :
    Calls Tryz.prog 27 #[.int .i64 c, .int .i64 (n : Int)] w fun e w' => ∃ m : Nat, m < n ∧ e = .returned (.int .i64 (m : Int)) ∧ w' = w := by
  obtain ⟨h1, h2⟩ := hc
  have hn0 : ¬ (n : Int) = 0 := by omega
  have hn1 : ¬ (n : Int) = -1 := by omega
  by_cases hneg : c < 0
  · go_enter Tryz.func27, Tryz.ntmps27
    go_wp2
    go_ret
    have q1 := Int.emod_lt_of_pos (-(c + 1)) (show (0 : Int) < n by omega)
    have q2 := Int.emod_nonneg (-(c + 1)) hn0
    refine ⟨((-(c + 1)) % (n : Int)).toNat, by omega, ?_, rfl⟩
    show Ending.returned (.int .i64 (-(c + 1).tmod (n : Int))) = _
    rw [← Int.neg_tmod, Int.tmod_eq_emod_of_nonneg (by omega), Int.toNat_of_nonneg q2]
  · have hneg' : ¬ c < 0 := hneg
    go_enter Tryz.func27, Tryz.ntmps27
    go_wp2
    go_ret
    have q1 := Int.emod_lt_of_pos c (show (0 : Int) < n by omega)
    have q2 := Int.emod_nonneg c hn0
    refine ⟨(c % (n : Int)).toNat, by omega, ?_, rfl⟩
    show Ending.returned (.int .i64 (c % (n : Int))) = _
    rw [Int.toNat_of_nonneg q2]
section
variable {s : List Nd} {rs : List Sp}
set_option maxRecDepth 20000 in
set_option maxHeartbeats 1000000 in
theorem node_at {w0 w : World} {F : Nat → Prop} {bw bx : Nat} {M : Int} (wf : WF s) (hD : Desk w0 F w bw bx (s.length : Int) M ⟨s, rs⟩) (c : Int) (hc : I64 c) :
    Calls Tryz.prog 57 #[ptr bw, .int .i64 c] w fun e w' => ∃ m : Nat, m < s.length ∧ e = .returned (.int .i64 (m : Int)) ∧ Below w.heap.size w w' := by
  obtain ⟨d0, d1, d2⟩ := hD.cells
  have C := hid (fun W => pick_at c hc s.length wf.pos (by have := wf.cap; omega) W)
  clear hD wf
  go_enter Tryz.func57, Tryz.ntmps57
  go_wp2_with (
    go_at_call 27
    refine (C.out _).mono ?_
    rintro e w1 ⟨m, hm, rfl, rfl⟩)
  go_ret
  exact ⟨m, hm, rfl, Below.refl _ _⟩
end
end Go.Proofs.YtabogkonklplcaaGreatDoor

namespace Go.Proofs.YtabogkonklplcaaGreatDoor
open Go.RowKit
set_option linter.unusedSimpArgs false
set_option linter.unusedVariables false
theorem Desk.narrow {w0 w : World} {F : Nat → Prop} {bw bx : Nat} {n mine : Int} {st : St} (h : Desk w0 F w bw bx n mine st) : Desk w0 (fun b => F b ∧ b < w.heap.size) w bw bx n mine st :=
  ⟨h.new, h.at_, fun e => h.out e.1, fun b e => h.ge b e.1, h.doc.narrow, h.low⟩
theorem Desk.back {w0 w W w2 : World} {F : Nat → Prop} {bw bx : Nat} {n mine : Int} {st st' : St} (h : Desk w0 F w bw bx n mine st) (hB : Below w.heap.size w W) (h2 : Desk w0 (grow (fun b => F b ∧ b < w.heap.size) W) w2 bw bx n mine st') : Desk w0 (grow F w) w2 bw bx n mine st' := by
  have hz := hB.size
  have hz0 := h.low.size
  have hlt := heap_lt h.at_
  refine h2.wider (fun b e => ?_) (fun e => e.elim h.out (fun e => by omega)) (fun b e => e.elim (h.ge b) (fun e => by omega))
  rcases e with e | e
  · exact .inl e.1
  · exact .inr (by omega)
theorem Desk.keeps {w0 w w' : World} {F G : Nat → Prop} {bw bx : Nat} {n mine : Int} {st : St} (h : Desk w0 F w bw bx n mine st) (hk : Keeps G w w') (h1 : ∀ b, F b → ¬ G b) (h2 : ¬ G bw) (h3 : ∀ b, G b → w0.heap.size ≤ b) : Desk w0 F w' bw bx n mine st := by
  refine ⟨h.new, (hk.block _ (heap_lt h.at_) h2).trans h.at_, h.out, h.ge, h.doc.keeps hk h1, ?_⟩
  have : Keeps (fun _ => False) w0 w' := (Keeps.of_below h.low).trans (hk.mono (fun b _ e => .inr (h3 b e)))
  exact this.below
section
variable {s : List Nd} {rs : List Sp}
set_option maxRecDepth 20000 in
set_option maxHeartbeats 1000000 in
theorem place_at {w0 w : World} {F : Nat → Prop} {bw bx : Nat} {M : Int} (hg : GG w0) (wf : WF s) (hD : Desk w0 F w bw bx (s.length : Int) M ⟨s, rs⟩) (a b : Int) (ha : I64 a) (hb : I64 b) :
    Calls Tryz.prog 25 #[ptr bw, .int .i64 a, .int .i64 b] w fun e w' => ∃ n k : Nat, n < s.length ∧ k ≤ sizeAt s n ∧ e = .returned (.agg #[.int .i64 (n : Int), .int .i64 (k : Int)]) ∧ Keeps F w w' ∧ Desk w0 (grow F w) w' bw bx (s.length : Int) M ⟨s, rs⟩ := by
  have C1 := hid (fun W (hB : Below w.heap.size w W) => node_at wf (hD.below hB) a ha)
  have C2 := hid (fun W (hB : Below w.heap.size w W) (n : Nat) (hn : n < s.length) => size_at hg wf (hD.narrow.below hB) n hn)
  have C3 := hid (fun W (m : Nat) (hm : m ≤ 40) => pick_at b hb (m + 1) (by omega) (by omega) W)
  have hs40 : ∀ n, n < s.length → sizeAt s n ≤ 40 := fun n hn => by
    rw [sizeAt_eq (List.getElem?_eq_getElem hn)]
    exact sizeN_le wf (List.getElem?_eq_getElem hn)
  have HD := hid hD
  clear hD wf hg
  go_enter Tryz.func25, Tryz.ntmps25
  go_wp2_with (first
    | (go_at_call 57
       refine (C1.out _ ((Below.refl _ w).alloc (Nat.le_refl _) _)).mono ?_
       rintro e w1 ⟨n, hn, rfl, hb1⟩
       have hbw := ((Below.refl _ w).alloc (Nat.le_refl _) (.cells #[.int .i64 0, .int .i64 0] 37)).trans (hb1.mono (by simp))
       have HB1 := hid hbw
       have HR1 := hid ((hb1.block w.heap.size (by simp)).trans (heap_alloc_new w (.cells #[.int .i64 0, .int .i64 0] 37)))
       have hs := hs40 n hn
       clear hb1 hbw hs40)
    | (go_at_call 28
       refine (C2.out _ HB1.out n hn).mono ?_
       rintro e w2 ⟨rfl, hk2, hd2⟩
       have hr2 := (hk2.block w.heap.size (heap_lt HR1.out) (fun e => Nat.lt_irrefl _ e.2)).trans HR1.out
       have H2 := hid (And.intro hk2 hd2)
       have z0 := cell_of_heap hr2 0
       have z1 := cell_of_heap hr2 1
       have f0 := frozen_of_heap hr2 0
       have f1 := frozen_of_heap hr2 1
       have HR2 := hid hr2
       clear hk2 hd2 hr2)
    | (go_at_call 27
       refine (C3.out _ (sizeAt s n) hs).mono ?_
       rintro e w3 ⟨k, hk, rfl, rfl⟩))
  obtain ⟨hk2, hd2⟩ := H2.out
  have hlw := heap_lt HR1.out
  have hlt := heap_lt HD.out.at_
  have hz0 := HD.out.low.size
  have a1 := heap_setCell_same w3 _ 0 _ _ (.int .i64 (n : Int)) HR2.out
  have a2 := heap_setCell_same _ _ 1 _ _ (.int .i64 (k : Int)) a1
  have hkS : Keeps (fun b => b = w.heap.size) w3 ((w3.setCell ⟨w.heap.size, 0, none⟩ (.int .i64 (n : Int))).setCell ⟨w.heap.size, 1, none⟩ (.int .i64 (k : Int))) := ((Keeps.refl (fun b => b = w.heap.size) w3).setCell (p := ⟨w.heap.size, 0, none⟩) (.inl rfl) _).setCell (p := ⟨w.heap.size, 1, none⟩) (.inl rfl) _
  have b0 : ((w3.setCell ⟨w.heap.size, 0, none⟩ (.int .i64 (n : Int))).setCell ⟨w.heap.size, 1, none⟩ (.int .i64 (k : Int))).cell? ⟨w.heap.size, 0, none⟩ = some (.int .i64 (n : Int)) := cell_of_heap a2 0
  have b1 : ((w3.setCell ⟨w.heap.size, 0, none⟩ (.int .i64 (n : Int))).setCell ⟨w.heap.size, 1, none⟩ (.int .i64 (k : Int))).cell? ⟨w.heap.size, 1, none⟩ = some (.int .i64 (k : Int)) := cell_of_heap a2 1
  refine bodyPost_ret (v := .agg #[.int .i64 (n : Int), .int .i64 (k : Int)]) (by simp [results, Tryz.results25, go_sem, b0, b1]) rfl ?_
  refine ⟨n, k, hn, by omega, rfl, ?_, ?_⟩
  · exact ((Keeps.of_below HB1.out).trans (hk2.mono (fun b _ e => .inl e.1))).trans (hkS.mono (fun b _ e => .inr (by omega)))
  · refine HD.out.back HB1.out (hd2.keeps hkS (fun b e e2 => ?_) (by omega) (fun b e => by omega))
    subst e2
    rcases e with e | e
    · exact Nat.lt_irrefl _ e.2
    · omega
end
end Go.Proofs.YtabogkonklplcaaGreatDoor

namespace Go.Proofs.YtabogkonklplcaaGreatDoor
open Go.RowKit
set_option linter.unusedSimpArgs false
set_option linter.unusedVariables false
def pickM (c : Int) (n : Nat) : Nat := ((if c < 0 then -(c + 1) else c) % (n : Int)).toNat
theorem pickM_lt (c : Int) {n : Nat} (hn : 0 < n) : pickM c n < n := by
  unfold pickM
  have q1 := Int.emod_lt_of_pos (if c < 0 then -(c + 1) else c) (show (0 : Int) < n by omega)
  have q2 := Int.emod_nonneg (if c < 0 then -(c + 1) else c) (show (n : Int) ≠ 0 by omega)
  omega
set_option maxRecDepth 20000 in
set_option maxHeartbeats 1000000 in
theorem pick_is (c : Int) (hc : I64 c) (n : Nat) (hn : 0 < n) (hn2 : n < 1000) (w : World) :
    Calls Tryz.prog 27 #[.int .i64 c, .int .i64 (n : Int)] w fun e w' => e = .returned (.int .i64 (pickM c n : Int)) ∧ w' = w := by
  obtain ⟨h1, h2⟩ := hc
  have hn0 : ¬ (n : Int) = 0 := by omega
  have hn1 : ¬ (n : Int) = -1 := by omega
  by_cases hneg : c < 0
  · go_enter Tryz.func27, Tryz.ntmps27
    go_wp2
    go_ret
    have q2 := Int.emod_nonneg (-(c + 1)) hn0
    refine ⟨?_, rfl⟩
    show Ending.returned (.int .i64 (-(c + 1).tmod (n : Int))) = _
    unfold pickM
    rw [if_pos hneg, ← Int.neg_tmod, Int.tmod_eq_emod_of_nonneg (by omega), Int.toNat_of_nonneg q2]
  · have HN := hid hneg
    have hneg' : ¬ c < 0 := hneg
    go_enter Tryz.func27, Tryz.ntmps27
    go_wp2
    go_ret
    have q2 := Int.emod_nonneg c hn0
    refine ⟨?_, rfl⟩
    show Ending.returned (.int .i64 (c % (n : Int))) = _
    unfold pickM
    rw [if_neg (show ¬ c < 0 by have := HN.out; omega), Int.toNat_of_nonneg q2]
def bitsA : Array ByteArray := #[⟨#[]⟩, ⟨#[112]⟩, ⟨#[113, 114]⟩, ⟨#[195, 169]⟩, ⟨#[39]⟩, ⟨#[228, 184, 150, 228, 184, 150]⟩, ⟨#[116, 117, 118]⟩]
def bitN (m : Nat) : ByteArray := (bitsA[m]?).getD ⟨#[]⟩
def bitC (m : Nat) : List ByteArray := (charsOf (bitN m)).getD []
theorem bit_takes (m : Nat) (hm : m < 7) : Takes (bitN m) (bitC m) := by
  have h : ∀ m, m < 7 → charsOf (bitN m) = some (bitC m) ∧ (bitC m).length ≤ 30 := by
    intro m hm
    match m, hm with
    | 0, _ => exact ⟨by decide +kernel, by decide +kernel⟩
    | 1, _ => exact ⟨by decide +kernel, by decide +kernel⟩
    | 2, _ => exact ⟨by decide +kernel, by decide +kernel⟩
    | 3, _ => exact ⟨by decide +kernel, by decide +kernel⟩
    | 4, _ => exact ⟨by decide +kernel, by decide +kernel⟩
    | 5, _ => exact ⟨by decide +kernel, by decide +kernel⟩
    | 6, _ => exact ⟨by decide +kernel, by decide +kernel⟩
    | _ + 7, h => omega
  exact h m hm
theorem bit_size (m : Nat) (hm : m < 7) : (bitN m).size < lots := by
  have h : ∀ m : Fin 7, (bitN m.1).size ≤ 6 := by decide +kernel
  have h1 : (bitN m).size ≤ 6 := h ⟨m, hm⟩
  unfold lots
  omega
set_option maxRecDepth 20000 in
set_option maxHeartbeats 1000000 in
theorem bits_at (w : World) :
    Calls Tryz.prog 58 #[] w fun e w' => ∃ b : Nat, e = .returned (.slice (some ⟨b, 0, none⟩) 7 7) ∧ Below w.heap.size w w' ∧ ∀ m : Nat, m < 7 → w'.cell? ⟨b, m, none⟩ = some (.string (bitN m)) := by
  go_enter Tryz.func58, Tryz.ntmps58
  go_wp2
  go_ret
  have hh := heap_alloc_new w (.cells #[.string ⟨#[]⟩, .string ⟨#[112]⟩, .string ⟨#[113, 114]⟩, .string ⟨#[195, 169]⟩, .string ⟨#[39]⟩, .string ⟨#[228, 184, 150, 228, 184, 150]⟩, .string ⟨#[116, 117, 118]⟩] 9)
  refine ⟨w.heap.size, rfl, (Below.refl _ w).alloc (Nat.le_refl _) _, ?_⟩
  intro m hm
  have := cell_of_heap hh m
  refine Eq.trans this ?_
  match m, hm with
  | 0, _ => rfl
  | 1, _ => rfl
  | 2, _ => rfl
  | 3, _ => rfl
  | 4, _ => rfl
  | 5, _ => rfl
  | 6, _ => rfl
  | _ + 7, h => omega
end Go.Proofs.YtabogkonklplcaaGreatDoor

namespace Go.Proofs.YtabogkonklplcaaGreatDoor
open Go.RowKit
set_option linter.unusedSimpArgs false
set_option linter.unusedVariables false
def isSec (b : ByteArray) (i : Nat) : Bool := (b.extract i (i + 2)).toList == [194, 167]
def cntTo (b : ByteArray) : Nat → Nat
  | 0 => 0
  | i + 1 => cntTo b i + (if isSec b i then 1 else 0)
def cntS (b : ByteArray) : Nat := cntTo b (b.size - 1)
theorem cntTo_le (b : ByteArray) : ∀ i, cntTo b i ≤ i
  | 0 => Nat.le_refl _
  | i + 1 => by
    have := cntTo_le b i
    unfold cntTo
    split <;> omega
set_option maxRecDepth 20000 in
set_option maxHeartbeats 1000000 in
theorem count_at (b : ByteArray) (hb : b.size < lots) (w : World) :
    Calls Tryz.prog 35 #[.string b] w fun e w' => e = .returned (.int .i64 (cntS b : Int)) ∧ w' = w := by
  unfold lots at hb
  go_enter Tryz.func35, Tryz.ntmps35
  go_wp2
  go_loop [3, 4] (fun t3 t4 => ∃ k : Nat, t4 = .int .i64 (k : Int) ∧ t3 = .int .i64 (cntTo b k : Int) ∧ k ≤ b.size - 1) (fun _ t4 => b.size - (intOf t4).toNat)
  case atStart => exact ⟨0, rfl, rfl, Nat.zero_le _⟩
  case round =>
    obtain ⟨k, rfl, rfl, hk⟩ := hrel
    have hc := cntTo_le b k
    by_cases h2 : k + 2 ≤ b.size
    · have h2' : (k : Int) + 2 ≤ (b.size : Int) := by omega
      have hix : ((k : Int) + 2).toNat = k + 2 := by omega
      cases hs : ((b.extract k (k + 2)).toList == [194, 167]) with
      | true =>
        have HC : Hid (cntTo b (k + 1) = cntTo b k + 1) := by
          show cntTo b k + (if isSec b k then 1 else 0) = _
          rw [show isSec b k = true from hs]; rfl
        go_wp2
        go_round
        case rel => exact ⟨k + 1, by first | rfl | simp, by rw [HC.out]; first | rfl | simp, by omega⟩
        case measure => simp [intOf]; omega
      | false =>
        have HC : Hid (cntTo b (k + 1) = cntTo b k) := by
          show cntTo b k + (if isSec b k then 1 else 0) = _
          rw [show isSec b k = false from hs]; rfl
        go_wp2
        go_round
        case rel => exact ⟨k + 1, by first | rfl | simp, by rw [HC.out], by omega⟩
        case measure => simp [intOf]; omega
    · have h2' : ¬ (k : Int) + 2 ≤ (b.size : Int) := by omega
      have hk2 : k = b.size - 1 := by omega
      have HK := hid hk2
      clear hk2
      go_wp2
      go_ret
      refine ⟨?_, rfl⟩
      unfold cntS
      rw [← HK.out]
      rfl
theorem shown_small {s : List Nd} (wf : WF s) {h : Nat → Nat} {H : Nat} (u : Up s h H) (n : Nat) (hn : n < s.length) : (shownF s (h n + 1) n).size < lots := by
  have h1 := shown_size wf u (h n + 1) n hn (Nat.lt_succ_self _)
  have h2 := all_length wf (h n + 1) n hn
  have h3 := wf.cap
  unfold lots
  omega
section
variable {s : List Nd} {rs : List Sp}
set_option maxRecDepth 20000 in
set_option maxHeartbeats 1000000 in
theorem holds_at {w0 w : World} {F : Nat → Prop} {bw bx : Nat} {N M : Int} (hg : GG w0) (wf : WF s) {h : Nat → Nat} {H : Nat} (u : Up s h H) (hD : Desk w0 F w bw bx N M ⟨s, rs⟩) (n : Nat) (hn : n < s.length) :
    Calls Tryz.prog 59 #[ptr bw, .int .i64 (n : Int)] w fun e w' => e = .returned (.bool (decide (0 < cntS (shownF s (h n + 1) n)))) ∧ Keeps F w w' ∧ Desk w0 (grow F w) w' bw bx N M ⟨s, rs⟩ := by
  obtain ⟨d0, d1, d2⟩ := hD.cells
  have C1 := pshow_yes (rs := rs) wf u n hn w F bx (hD.gg hg) hD.doc
  rw [show errV 0 0 = .nilIface from by simp [errV]] at C1
  have CC := hid C1
  have C2 := hid (fun W => count_at (shownF s (h n + 1) n) (shown_small wf u n hn) W)
  have HD := hid hD
  clear hD C1 hg wf u
  obtain ⟨S, hS⟩ : ∃ S, shownF s (h n + 1) n = S := ⟨_, rfl⟩
  rw [hS] at CC C2 ⊢
  clear hS
  go_enter Tryz.func59, Tryz.ntmps59
  go_wp2_with (first
    | (go_at_call 55
       refine CC.out.mono ?_
       rintro e w1 ⟨rfl, hk1, hl1⟩
       have H1 := hid (And.intro hk1 (HD.out.next hk1 hl1))
       clear hk1 hl1)
    | (go_at_call 35
       refine (C2.out _).mono ?_
       rintro e w2 ⟨rfl, rfl⟩))
  go_ret
  refine ⟨?_, H1.out⟩
  by_cases h0 : 0 < cntS S
  · have : (0 : Int) < (cntS S : Int) := by omega
    simp [h0, this]
  · have : ¬ (0 : Int) < (cntS S : Int) := by omega
    simp [h0, this]
end
end Go.Proofs.YtabogkonklplcaaGreatDoor

namespace Go.Proofs.YtabogkonklplcaaGreatDoor
open Go.RowKit
set_option linter.unusedSimpArgs false
set_option linter.unusedVariables false
def quoAt (b : ByteArray) : Nat → Nat → Nat
  | 0, i => i
  | f + 1, i => if i < b.size ∧ byteI b i ≠ 39 then quoAt b f (i + 1) else i
def befF (b : ByteArray) : Nat → Nat → Nat → Int
  | 0, _, _ => -1
  | f + 1, i, k => if i + 2 ≤ b.size then
      (if (if byteI b i = 92 then i + 1 else i) + 2 ≤ b.size ∧ isSec b (if byteI b i = 92 then i + 1 else i) = true then (k : Int)
       else befF b f ((if byteI b i = 92 then i + 1 else i) + 1) (if (if byteI b i = 92 then i + 1 else i) < b.size ∧ (byteI b (if byteI b i = 92 then i + 1 else i) < 128 ∨ 192 ≤ byteI b (if byteI b i = 92 then i + 1 else i)) then k + 1 else k))
    else -1
def befS (b : ByteArray) : Int := befF b (b.size + 3) (quoAt b (b.size + 1) 0 + 1) 0
theorem quo_step {b : ByteArray} {f i : Nat} (h1 : i < b.size) (h2 : byteI b i ≠ 39) : quoAt b (f + 1) i = quoAt b f (i + 1) := by
  rw [quoAt, if_pos ⟨h1, h2⟩]
theorem quo_end {b : ByteArray} {f i : Nat} (h : ¬ (i < b.size ∧ byteI b i ≠ 39)) : quoAt b f i = i := by
  cases f with
  | zero => rfl
  | succ f => rw [quoAt, if_neg h]
theorem bef_end {b : ByteArray} {f i k : Nat} (h : ¬ i + 2 ≤ b.size) : befF b f i k = -1 := by
  cases f with
  | zero => rfl
  | succ f => rw [befF, if_neg h]
theorem bef_here {b : ByteArray} {f i k i1 : Nat} (h : i + 2 ≤ b.size) (hi : (if byteI b i = 92 then i + 1 else i) = i1) (h1 : i1 + 2 ≤ b.size) (hs : isSec b i1 = true) : befF b (f + 1) i k = (k : Int) := by
  rw [befF, if_pos h, hi, if_pos ⟨h1, hs⟩]
theorem bef_next {b : ByteArray} {f i k i1 k1 : Nat} (h : i + 2 ≤ b.size) (hi : (if byteI b i = 92 then i + 1 else i) = i1) (hs : ¬ (i1 + 2 ≤ b.size ∧ isSec b i1 = true)) (hk : (if i1 < b.size ∧ (byteI b i1 < 128 ∨ 192 ≤ byteI b i1) then k + 1 else k) = k1) : befF b (f + 1) i k = befF b f (i1 + 1) k1 := by
  rw [befF, if_pos h, hi, if_neg hs, hk]
section
variable {s : List Nd} {rs : List Sp}
set_option maxRecDepth 20000 in
set_option maxHeartbeats 4000000 in
theorem before_at {w0 w : World} {F : Nat → Prop} {bw bx : Nat} {N M : Int} (hg : GG w0) (wf : WF s) {h : Nat → Nat} {H : Nat} (u : Up s h H) (hD : Desk w0 F w bw bx N M ⟨s, rs⟩) (n : Nat) (hn : n < s.length) :
    Calls Tryz.prog 61 #[ptr bw, .int .i64 (n : Int)] w fun e w' => e = .returned (.int .i64 (befS (shownF s (h n + 1) n))) ∧ Keeps F w w' ∧ Desk w0 (grow F w) w' bw bx N M ⟨s, rs⟩ := by
  obtain ⟨d0, d1, d2⟩ := hD.cells
  have C1 := pshow_yes (rs := rs) wf u n hn w F bx (hD.gg hg) hD.doc
  rw [show errV 0 0 = .nilIface from by simp [errV]] at C1
  have CC := hid C1
  have hsm := shown_small wf u n hn
  have HD := hid hD
  clear hD C1 hg wf u
  obtain ⟨b, hS⟩ : ∃ S, shownF s (h n + 1) n = S := ⟨_, rfl⟩
  rw [hS] at CC hsm ⊢
  clear hS
  unfold lots at hsm
  go_enter Tryz.func61, Tryz.ntmps61
  go_wp2_with (
    go_at_call 55
    refine CC.out.mono ?_
    rintro e w1 ⟨rfl, hk1, hl1⟩
    have H1 := hid (And.intro hk1 (HD.out.next hk1 hl1))
    clear hk1 hl1)
  clear d0 d1 d2
  go_loop [7] (fun t7 => ∃ i f : Nat, t7 = .int .i64 (i : Int) ∧ i ≤ b.size ∧ b.size < f + i ∧ quoAt b f i = quoAt b (b.size + 1) 0) (fun t7 => b.size - (intOf t7).toNat)
  case atStart => exact ⟨0, b.size + 1, rfl, Nat.zero_le _, by omega, rfl⟩
  case round =>
    obtain ⟨i, f, rfl, hi, hf, hq⟩ := hrel
    have HQ := hid hq
    clear hq
    by_cases hgo : i < b.size ∧ byteI b i ≠ 39
    · obtain ⟨h1, h39⟩ := hgo
      have h1' : (i : Int) < (b.size : Int) := by omega
      have hbi := byteI_eq b i h1
      obtain ⟨f, rfl⟩ : ∃ g, f = g + 1 := ⟨f - 1, by omega⟩
      have HE := hid ((quo_step (f := f) h1 h39).symm.trans HQ.out)
      go_wp2
      go_round
      case rel => exact ⟨i + 1, f, by first | rfl | simp, by omega, by omega, HE.out⟩
      case measure => simp [intOf]; omega
    · have hq2 : quoAt b (b.size + 1) 0 = i := HQ.out.symm.trans (quo_end hgo)
      have HB : Hid (befS b = befF b (b.size + 3) (i + 1) 0) := by show befS b = _; unfold befS; rw [hq2]
      have hex : (¬ (i : Int) < (b.size : Int)) ∨ (∃ h1 : i < b.size, (i : Int) < (b.size : Int) ∧ ((b[i]'h1).toNat : Int) = byteI b i ∧ byteI b i = 39) := by
        by_cases h1 : i < b.size
        · exact .inr ⟨h1, by omega, byteI_eq b i h1, Classical.byContradiction (fun e => hgo ⟨h1, e⟩)⟩
        · exact .inl (by omega)
      clear hq2 HQ hgo
      rcases hex with h1' | ⟨h1, h1', hbi, h39⟩
      all_goals
        go_wp2
        clear h1'
        go_loop [8, 9] (fun t8 t9 => ∃ i k f : Nat, t8 = .int .i64 (k : Int) ∧ t9 = .int .i64 (i : Int) ∧ k ≤ i ∧ i ≤ b.size + 1 ∧ b.size + 1 < f + i ∧ befF b f i k = befS b) (fun _ t9 => b.size + 2 - (intOf t9).toNat)
        case atStart => exact ⟨i + 1, 0, b.size + 3, rfl, by first | rfl | simp, by omega, by omega, by omega, HB.out.symm⟩
        case round =>
          clear HB
          obtain ⟨i, k, f, rfl, rfl, hki, hi, hf, hbef⟩ := hrel
          have HBF := hid hbef
          clear hbef
          by_cases h2 : i + 2 ≤ b.size
          · have h2' : (i : Int) + 2 ≤ (b.size : Int) := by omega
            obtain ⟨f, rfl⟩ : ∃ g, f = g + 1 := ⟨f - 1, by omega⟩
            have hbi := byteI_eq b i (by omega)
            have e2 : ((i : Int) + 2).toNat = i + 2 := by omega
            by_cases h92 : byteI b i = 92
            · have e1 : ((i : Int) + 1).toNat = i + 1 := by omega
              have e3 : ((i : Int) + 1 + 2).toNat = i + 1 + 2 := by omega
              by_cases h3 : i + 1 + 2 ≤ b.size
              · have h3' : (i : Int) + 1 + 2 ≤ (b.size : Int) := by omega
                by_cases hs : ((b.extract (i + 1) (i + 1 + 2)).toList == [194, 167]) = true
                · have HR : Hid (befS b = (k : Int)) := HBF.out.symm.trans (bef_here h2 (if_pos h92) h3 hs)
                  go_wp2
                  go_ret
                  exact ⟨by rw [HR.out]; rfl, H1.out⟩
                · have HNS : Hid (¬ (i + 1 + 2 ≤ b.size ∧ isSec b (i + 1) = true)) := fun e => hs e.2
                  have hs' : ((b.extract (i + 1) (i + 1 + 2)).toList == [194, 167]) = false := by simpa using hs
                  clear hs
                  have hb1 := byteI_eq b (i + 1) (by omega)
                  have hl1 : (i : Int) + 1 < (b.size : Int) := by omega
                  by_cases h128 : byteI b (i + 1) < 128
                  · have HN : Hid (befF b f (i + 1 + 1) (k + 1) = befS b) := (bef_next h2 (if_pos h92) HNS.out (if_pos ⟨by omega, .inl h128⟩)).symm.trans HBF.out
                    go_wp2
                    go_round
                    case rel => exact ⟨i + 1 + 1, k + 1, f, by first | rfl | simp | (simp; omega), by first | rfl | simp | (simp; omega), by omega, by omega, by omega, HN.out⟩
                    case measure => simp [intOf]; omega
                  · by_cases h192 : (192 : Int) ≤ byteI b (i + 1)
                    · have HN : Hid (befF b f (i + 1 + 1) (k + 1) = befS b) := (bef_next h2 (if_pos h92) HNS.out (if_pos ⟨by omega, .inr h192⟩)).symm.trans HBF.out
                      go_wp2
                      go_round
                      case rel => exact ⟨i + 1 + 1, k + 1, f, by first | rfl | simp | (simp; omega), by first | rfl | simp | (simp; omega), by omega, by omega, by omega, HN.out⟩
                      case measure => simp [intOf]; omega
                    · have HN : Hid (befF b f (i + 1 + 1) (k) = befS b) := (bef_next h2 (if_pos h92) HNS.out (if_neg (fun e => e.2.elim h128 h192))).symm.trans HBF.out
                      go_wp2
                      go_round
                      case rel => exact ⟨i + 1 + 1, k, f, by first | rfl | simp | (simp; omega), by first | rfl | simp | (simp; omega), by omega, by omega, by omega, HN.out⟩
                      case measure => simp [intOf]; omega
              · have h3' : ¬ (i : Int) + 1 + 2 ≤ (b.size : Int) := by omega
                have HNS : Hid (¬ (i + 1 + 2 ≤ b.size ∧ isSec b (i + 1) = true)) := fun e => h3 e.1
                have hb1 := byteI_eq b (i + 1) (by omega)
                have hl1 : (i : Int) + 1 < (b.size : Int) := by omega
                by_cases h128 : byteI b (i + 1) < 128
                · have HN : Hid (befF b f (i + 1 + 1) (k + 1) = befS b) := (bef_next h2 (if_pos h92) HNS.out (if_pos ⟨by omega, .inl h128⟩)).symm.trans HBF.out
                  go_wp2
                  go_round
                  case rel => exact ⟨i + 1 + 1, k + 1, f, by first | rfl | simp | (simp; omega), by first | rfl | simp | (simp; omega), by omega, by omega, by omega, HN.out⟩
                  case measure => simp [intOf]; omega
                · by_cases h192 : (192 : Int) ≤ byteI b (i + 1)
                  · have HN : Hid (befF b f (i + 1 + 1) (k + 1) = befS b) := (bef_next h2 (if_pos h92) HNS.out (if_pos ⟨by omega, .inr h192⟩)).symm.trans HBF.out
                    go_wp2
                    go_round
                    case rel => exact ⟨i + 1 + 1, k + 1, f, by first | rfl | simp | (simp; omega), by first | rfl | simp | (simp; omega), by omega, by omega, by omega, HN.out⟩
                    case measure => simp [intOf]; omega
                  · have HN : Hid (befF b f (i + 1 + 1) (k) = befS b) := (bef_next h2 (if_pos h92) HNS.out (if_neg (fun e => e.2.elim h128 h192))).symm.trans HBF.out
                    go_wp2
                    go_round
                    case rel => exact ⟨i + 1 + 1, k, f, by first | rfl | simp | (simp; omega), by first | rfl | simp | (simp; omega), by omega, by omega, by omega, HN.out⟩
                    case measure => simp [intOf]; omega
            · by_cases hs : ((b.extract i (i + 2)).toList == [194, 167]) = true
              · have HR : Hid (befS b = (k : Int)) := HBF.out.symm.trans (bef_here h2 (if_neg h92) h2 hs)
                go_wp2
                go_ret
                exact ⟨by rw [HR.out]; rfl, H1.out⟩
              · have HNS : Hid (¬ (i + 2 ≤ b.size ∧ isSec b i = true)) := fun e => hs e.2
                have hs' : ((b.extract i (i + 2)).toList == [194, 167]) = false := by simpa using hs
                clear hs
                have hb1 := byteI_eq b (i) (by omega)
                have hl1 : (i : Int) < (b.size : Int) := by omega
                by_cases h128 : byteI b (i) < 128
                · have HN : Hid (befF b f (i + 1) (k + 1) = befS b) := (bef_next h2 (if_neg h92) HNS.out (if_pos ⟨by omega, .inl h128⟩)).symm.trans HBF.out
                  go_wp2
                  go_round
                  case rel => exact ⟨i + 1, k + 1, f, by first | rfl | simp | (simp; omega), by first | rfl | simp | (simp; omega), by omega, by omega, by omega, HN.out⟩
                  case measure => simp [intOf]; omega
                · by_cases h192 : (192 : Int) ≤ byteI b (i)
                  · have HN : Hid (befF b f (i + 1) (k + 1) = befS b) := (bef_next h2 (if_neg h92) HNS.out (if_pos ⟨by omega, .inr h192⟩)).symm.trans HBF.out
                    go_wp2
                    go_round
                    case rel => exact ⟨i + 1, k + 1, f, by first | rfl | simp | (simp; omega), by first | rfl | simp | (simp; omega), by omega, by omega, by omega, HN.out⟩
                    case measure => simp [intOf]; omega
                  · have HN : Hid (befF b f (i + 1) (k) = befS b) := (bef_next h2 (if_neg h92) HNS.out (if_neg (fun e => e.2.elim h128 h192))).symm.trans HBF.out
                    go_wp2
                    go_round
                    case rel => exact ⟨i + 1, k, f, by first | rfl | simp | (simp; omega), by first | rfl | simp | (simp; omega), by omega, by omega, by omega, HN.out⟩
                    case measure => simp [intOf]; omega
          · have h2' : ¬ (i : Int) + 2 ≤ (b.size : Int) := by omega
            have HR : Hid (befS b = -1) := HBF.out.symm.trans (bef_end h2)
            go_wp2
            go_ret
            exact ⟨by rw [HR.out]; rfl, H1.out⟩
end
end Go.Proofs.YtabogkonklplcaaGreatDoor

namespace Go.Proofs.YtabogkonklplcaaGreatDoor
open Go.RowKit
set_option linter.unusedSimpArgs false
set_option linter.unusedVariables false
theorem InsR.size {s s' : List Nd} {A B C a y : Int} {f : Mvf} (h : InsR s A B C a y s' f) : s'.length = s.length := by
  rcases h with ⟨_, rfl, _⟩ | ⟨_, i, j, c, x, v, _, _, _, _, _, _, _, rfl, _⟩
  · rfl
  · simp
theorem RemR.size {s s' : List Nd} {A a y : Int} {f : Mvf} (h : RemR s A a y s' f) : s'.length = s.length := by
  rcases h with ⟨_, rfl, _⟩ | ⟨_, i, _, h⟩
  · rfl
  · cases h; simp
theorem RepR.size {s s' : List Nd} {A B C a y : Int} {t : ByteArray} {f : Mvf} (h : RepR s A B C t a y s' f) : s'.length = s.length := by
  rcases h with ⟨_, rfl, _⟩ | ⟨_, n, o, cm, x, lf, _, _, _, _, _, _, _, _, rfl, _⟩
  · rfl
  · simp
theorem SplR.size {s s' : List Nd} {A B r a y : Int} {f : Mvf} (h : SplR s A B r a y s' f) (hy : y = 0) : r = (s.length : Int) ∧ s'.length = s.length + 1 := by
  rcases h with ⟨h0, _⟩ | ⟨_, hr, _, n, k, x, _, _, _, _, _, h⟩
  · exact absurd hy h0
  · refine ⟨hr, ?_⟩
    rcases h with ⟨_, rfl, _⟩ | ⟨j, m, y, _, _, _, _, _, rfl, _⟩ <;> simp
theorem SplR.same {s s' : List Nd} {A B r a y : Int} {f : Mvf} (h : SplR s A B r a y s' f) (hy : y ≠ 0) : s' = s := by
  rcases h with ⟨_, rfl, _⟩ | ⟨h0, _⟩
  · rfl
  · exact absurd h0 hy
def Act1 (keep : Bool) (s s' : List Nd) (f : Mvf) : Prop :=
  (∃ (n a y : Int) (nd : Nd), (nd = rootNd ∨ ∃ m : Nat, m < 7 ∧ nd = ⟨true, bitC m, [], -1⟩) ∧ NewR s nd n a y s' f) ∨
  (∃ A B C a y : Int, InsR s A B C a y s' f) ∨
  (∃ (i : Nat) (a y : Int) (h : Nat → Nat) (H : Nat), i < s.length ∧ Up s h H ∧ (keep = true → cntS (shownF s (h i + 1) i) = 0) ∧ RemR s (i : Int) a y s' f) ∨
  (∃ (n o c m : Nat) (a y : Int) (h : Nat → Nat) (H : Nat), n < s.length ∧ o ≤ sizeAt s n ∧ m < 7 ∧ Up s h H ∧ (keep = true → befS (shownF s (h n + 1) n) < (o : Int) ∨ (o : Int) + (c : Int) ≤ befS (shownF s (h n + 1) n)) ∧ RepR s (n : Int) (o : Int) (c : Int) (bitN m) a y s' f) ∨
  (∃ A B n a y : Int, SplR s A B n a y s' f)
structure Did1 (keep : Bool) (s s' : List Nd) (f : Mvf) : Prop where
  act : Act1 keep s s' f
  wf : WF s'
  lives : ∀ V : List Nd → Sp → Prop, Lives V → ∀ z, V s z → V s' (mvSp f z)
inductive Dids (keep : Bool) : List Nd → List Nd → List Mvf → Prop
  | nil {s : List Nd} : Dids keep s s []
  | cons {s s1 s' : List Nd} {f : Mvf} {fs : List Mvf} : Did1 keep s s1 f → Dids keep s1 s' fs → Dids keep s s' (f :: fs)
theorem Dids.lives {keep : Bool} {s s' : List Nd} {fs : List Mvf} (h : Dids keep s s' fs) {V : List Nd → Sp → Prop} (hV : Lives V) : ∀ z, V s z → V s' (mvSp (compF fs) z) := by
  induction h with
  | nil => intro z hz; rw [compF_nil]; exact hz
  | cons c _ ih => intro z hz; rw [compF_cons]; exact ih _ (c.lives V hV z hz)
theorem Dids.wf {keep : Bool} {s s' : List Nd} {fs : List Mvf} (h : Dids keep s s' fs) (wf : WF s) : WF s' := by
  induction h with
  | nil => exact wf
  | cons c _ ih => exact ih c.wf
theorem Dids.all {keep : Bool} {s s' : List Nd} {fs : List Mvf} (h : Dids keep s s' fs) {V : List Nd → Sp → Prop} (hV : Lives V) {rs : List Sp} (hr : ∀ z ∈ rs, V s z) : ∀ z ∈ rs.map (mvSp (compF fs)), V s' z :=
  mapV hr (h.lives hV)
def DoesPost (w0 : World) (bw bx : Nat) (M : Int) (s : List Nd) (rs : List Sp) (keep : Bool) (e : Ending) (w' : World) : Prop :=
  e = .returned (.tuple #[]) ∧ ∃ (F' : Nat → Prop) (s' : List Nd) (fs : List Mvf), Dids keep s s' fs ∧ Desk w0 F' w' bw bx (s'.length : Int) M ⟨s', rs.map (mvSp (compF fs))⟩
theorem Desk.setN {w0 w : World} {F : Nat → Prop} {bw bx : Nat} {n mine : Int} {st : St} (h : Desk w0 F w bw bx n mine st) (n' : Int) : Desk w0 F (w.setCell ⟨bw, 1, none⟩ (.int .i64 n')) bw bx n' mine st := by
  have hk : Keeps (fun b => b = bw) w (w.setCell ⟨bw, 1, none⟩ (.int .i64 n')) := (Keeps.refl (fun b => b = bw) w).setCell (p := ⟨bw, 1, none⟩) (.inl rfl) _
  have hn := h.new
  refine ⟨h.new, ?_, h.out, h.ge, h.doc.keeps hk (fun b hb e => h.out (e ▸ hb)), ?_⟩
  · have := heap_setCell_same w bw 1 _ _ (.int .i64 n') h.at_
    simpa using this
  · have : Keeps (fun _ => False) w0 (w.setCell ⟨bw, 1, none⟩ (.int .i64 n')) := (Keeps.of_below h.low).trans (hk.mono (fun b _ e => .inr (by omega)))
    exact this.below
theorem Desk.as {w0 w : World} {F : Nat → Prop} {bw bx : Nat} {n n' mine : Int} {st : St} (h : Desk w0 F w bw bx n mine st) (e : n = n') : Desk w0 F w bw bx n' mine st := e ▸ h
structure DeskS (w0 : World) (F : Nat → Prop) (w : World) (bw bx : Nat) (n mine : Int) (st : St) (sb : Nat) (K A B C : Int) : Prop where
  desk : Desk w0 F w bw bx n mine st
  at_ : w.heap[sb]? = some (.cells #[.int .i64 K, .int .i64 A, .int .i64 B, .int .i64 C] 56 (0, 0))
  out : ¬ F sb
section
variable {w0 w w' : World} {F : Nat → Prop} {bw bx sb : Nat} {n n' mine K A B C : Int} {st st' : St}
theorem DeskS.ne (h : DeskS w0 F w bw bx n mine st sb K A B C) : ¬ sb = bw := fun e => by
  have h1 := h.at_
  rw [e, h.desk.at_] at h1
  simp at h1
theorem DeskS.below (h : DeskS w0 F w bw bx n mine st sb K A B C) (hb : Below w.heap.size w w') : DeskS w0 F w' bw bx n mine st sb K A B C :=
  ⟨h.desk.below hb, (hb.block _ (heap_lt h.at_)).trans h.at_, h.out⟩
theorem DeskS.drew (h : DeskS w0 F w bw bx n mine st sb K A B C) : DeskS w0 F w.drew bw bx n mine st sb K A B C := h.below (Below.refl _ _).drew
theorem DeskS.with (h : DeskS w0 F w bw bx n mine st sb K A B C) (hk : Keeps F w w') (hd : Desk w0 (grow F w) w' bw bx n' mine st') : DeskS w0 (grow F w) w' bw bx n' mine st' sb K A B C :=
  ⟨hd, (hk.block _ (heap_lt h.at_) h.out).trans h.at_, fun e => e.elim h.out (fun e => Nat.not_le_of_lt (heap_lt h.at_) e)⟩
theorem DeskS.next (h : DeskS w0 F w bw bx n mine st sb K A B C) (hk : Keeps F w w') (hl : PLies w' (grow F w) bx st') : DeskS w0 (grow F w) w' bw bx n mine st' sb K A B C :=
  h.with hk (h.desk.next hk hl)
theorem DeskS.setN (h : DeskS w0 F w bw bx n mine st sb K A B C) (n' : Int) : DeskS w0 F (w.setCell ⟨bw, 1, none⟩ (.int .i64 n')) bw bx n' mine st sb K A B C := by
  have hk : Keeps (fun b => b = bw) w (w.setCell ⟨bw, 1, none⟩ (.int .i64 n')) := (Keeps.refl (fun b => b = bw) w).setCell (p := ⟨bw, 1, none⟩) (.inl rfl) _
  exact ⟨h.desk.setN n', (hk.block _ (heap_lt h.at_) h.ne).trans h.at_, h.out⟩
theorem DeskS.cells (h : DeskS w0 F w bw bx n mine st sb K A B C) : w.cell? ⟨bw, 0, none⟩ = some (ptr bx) ∧ w.cell? ⟨sb, 0, none⟩ = some (.int .i64 K) ∧ w.cell? ⟨sb, 1, none⟩ = some (.int .i64 A) ∧ w.cell? ⟨sb, 2, none⟩ = some (.int .i64 B) ∧ w.cell? ⟨sb, 3, none⟩ = some (.int .i64 C) :=
  ⟨h.desk.cells.1, cell_of_heap h.at_ 0, cell_of_heap h.at_ 1, cell_of_heap h.at_ 2, cell_of_heap h.at_ 3⟩
end
section
variable {s : List Nd} {rs : List Sp}
set_option maxRecDepth 20000 in
set_option maxHeartbeats 1000000 in
theorem node_is {w0 w : World} {F : Nat → Prop} {bw bx : Nat} {M : Int} (wf : WF s) (hD : Desk w0 F w bw bx (s.length : Int) M ⟨s, rs⟩) (c : Int) (hc : I64 c) :
    Calls Tryz.prog 57 #[ptr bw, .int .i64 c] w fun e w' => e = .returned (.int .i64 (pickM c s.length : Int)) ∧ w' = w := by
  obtain ⟨d0, d1, d2⟩ := hD.cells
  have C := hid (fun W => pick_is c hc s.length wf.pos (by have := wf.cap; omega) W)
  clear hD wf
  go_enter Tryz.func57, Tryz.ntmps57
  go_wp2_with (
    go_at_call 27
    refine (C.out _).mono ?_
    rintro e w1 ⟨rfl, rfl⟩)
  go_ret
  exact ⟨rfl, rfl⟩
end
theorem size40 {s : List Nd} (wf : WF s) {n : Nat} (hn : n < s.length) : sizeAt s n ≤ 40 := by
  rw [sizeAt_eq (List.getElem?_eq_getElem hn)]
  exact sizeN_le wf (List.getElem?_eq_getElem hn)
end Go.Proofs.YtabogkonklplcaaGreatDoor
