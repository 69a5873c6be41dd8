import Derived.Test.YtabogkonklplcaaGreatDoorE16
import Derived.Test.YtabogkonklplcaaGreatDoorE08
import Derived.Shelf.Abstract
import Derived.Shelf.RegionOpen
import Derived.OwnWalkIn
import Derived.TacticsInMore
import Derived.LoopNIn
import Derived.LoopIn
import Derived.Deep.QuietTactic
import Derived.BigQuiet
import Derived.Test.YtabogkonklplcaaGreatDoorCards
import Derived.Test.YtabogkonklplcaaGreatDoorTie
import Derived.ProofKit
import Derived.OpenShut
import Derived.Deep.DeepHandedRow
import Derived.Deep.Slices
import Derived.Lib.LaidTab

/- tree.all, and the function that it gives. -/
namespace Go.Proofs.YtabogkonklplcaaGreatDoor
open Go.RowKit Go.Shelf
set_option linter.unusedSimpArgs false
set_option linter.unusedVariables false
attribute [local go_sem] Oper.semAt_some

set_option maxHeartbeats 400000 in
theorem all_any (bf : Nat) (c : Int) (w : World) : Calls Tryz.prog 90 #[ptr bf, .int .i64 c] w fun e w' =>
    e = .returned (.func (.func 138) #[] #[ptr (w.heap.size + 1), ptr w.heap.size]) ∧ w' = (w.alloc (.cells #[ptr bf] 91)).alloc (.cells #[.int .i64 c] 3) := by
  go_enter Tryz.func90, Tryz.ntmps90
  go_wp2
  go_ret
  exact ⟨by simp, rfl⟩

/-- What the function reads. -/
structure Seen (s : List Nd) (F : Nat → Prop) (bf bn cap : Nat) (pn : List PN) (n b1 b2 b3 l : Nat) (w : World) : Prop where
  forest : PForAt w F bf bn cap pn s
  number : w.cell? ⟨b1, 0, none⟩ = some (.int .i64 n)
  whose : w.cell? ⟨b2, 0, none⟩ = some (ptr bf)
  yield : w.cell? ⟨b3, 0, none⟩ = some (.func (.yield l) #[] #[])

theorem Seen.keeps {s : List Nd} {F O : Nat → Prop} {bf bn cap : Nat} {pn : List PN} {n b1 b2 b3 l : Nat} {w w' : World} (h : Seen s F bf bn cap pn n b1 b2 b3 l w) (hk : Keeps O w w') (hF : ∀ b, F b → ¬ O b) (o1 : ¬ O b1) (o2 : ¬ O b2) (o3 : ¬ O b3) : Seen s F bf bn cap pn n b1 b2 b3 l w' :=
  ⟨h.forest.keeps hk hF, hk.cell h.number o1, hk.cell h.whose o2, hk.cell h.yield o3⟩

set_option maxRecDepth 20000 in
set_option maxHeartbeats 4000000 in
theorem all1_ok {s : List Nd} (wf : WF s) {h : Nat → Nat} {B : Nat} (u : Up s h B) {F : Nat → Prop} {bf bn cap : Nat} {pn : List PN} : ∀ (k n : Nat), n < s.length → h n < k → ∀ (w : World) (O : Nat → Prop) (b1 b2 : Nat), PForAt w F bf bn cap pn s → (∀ b, F b → b < w.heap.size ∧ ¬ O b) →
    w.cell? ⟨b1, 0, none⟩ = some (.int .i64 n) → w.cell? ⟨b2, 0, none⟩ = some (ptr bf) → ¬ O b1 → ¬ O b2 → SeqOk Tryz.prog 138 #[ptr b1, ptr b2] (allF s k n) w O := by
  intro k
  induction k with
  | zero => intro n _ hh; omega
  | succ k ih =>
    intro n hn hh w O b1 b2 hD hF c1 c2 o1 o2 l J Jx O1 w1 hb hO1 hlt mJ mJx hY hJ0
    have hb1 := hb
    have l1 := World.block_lt_of_cell? w _ c1
    have l2 := World.block_lt_of_cell? w _ c2
    have hF1 : ∀ b, F b → ¬ O1 b := fun b hb1 e => (hO1 b e).elim (hF b hb1).2 (fun e => by have := (hF b hb1).1; omega)
    have p1 : ¬ O1 b1 := fun e => (hO1 _ e).elim o1 (fun e => by simp at l1; omega)
    have p2 : ¬ O1 b2 := fun e => (hO1 _ e).elim o2 (fun e => by simp at l2; omega)
    have p3 : ¬ O1 w1.heap.size := fun e => by have := hlt _ e; omega
    have hk0 : Keeps O1 w1 (w1.alloc (.cells #[.func (.yield l) #[] #[]] 83)) := (Keeps.refl _ _).alloc _
    have S0 : Seen s F bf bn cap pn n b1 b2 w1.heap.size l (w1.alloc (.cells #[.func (.yield l) #[] #[]] 83)) :=
      ⟨(hD.below hb).keeps hk0 hF1, hk0.cell ((hb.cell (p := ⟨b1, 0, none⟩) l1).trans c1) p1, hk0.cell ((hb.cell (p := ⟨b2, 0, none⟩) l2).trans c2) p2, cell_of_heap (heap_alloc_new w1 _) 0⟩
    have hJ1 : J [] O1 (w1.alloc (.cells #[.func (.yield l) #[] #[]] 83)) := mJ _ _ _ _ hJ0 ((Keeps.refl _ _).alloc _)
    obtain ⟨fn, tmps, assign, body, hy, hR⟩ := hY 0 [] n O1 _ hJ1 ⟨(kidsOf s n).flatMap (allF s k), rfl⟩ (fun b e => by have := hlt b e; simp; omega)
    have e1 := S0.number
    have e2 := S0.yield
    have SS := hid S0
    have HR := hid hR
    refine callsIn_wide.1 (callsIn_of_wp_marks (F := Fence.wide) (n := 1) Tryz.func138 rfl trivial ?_ rfl)
    clear hR S0 hJ1 hJ0 c1 c2 hb hD
    simp only [Tryz.ntmps138, List.size_toArray, List.length_cons, List.length_nil, Nat.reduceAdd, Nat.reduceSub, Array.replicate_succ, Array.replicate_zero, List.push_toArray, List.append_toArray, List.nil_append, List.cons_append]
    dsimp only [encN] at hy
    gi_wp2
    refine HR.out.mono ?_
    rintro e w2 ⟨O2, st2, (⟨rfl, hJ2⟩ | ⟨rfl, hX2⟩)⟩
    · have S2 := SS.out.keeps st2.keeps hF1 p1 p2 p3
      have f1 := S2.number
      have f2 := S2.whose
      have h0 := S2.forest.nodesCell
      have hx : s[n]? = some s[n] := List.getElem?_eq_getElem hn
      obtain ⟨x, hxx⟩ : ∃ x, x = s[n] := ⟨_, rfl⟩
      rw [← hxx] at hx
      clear hxx
      obtain ⟨r, hr, ho, d0, d1, d2, d3⟩ := S2.forest.look hx
      obtain ⟨sa, sc, hkv⟩ : ∃ a c, r.kv = .slice a x.ks.length c := by
        rcases row_cases ho.kids with ⟨h1, h2⟩ | ⟨g, c, h1⟩
        · exact ⟨none, 0, by rw [h1, h2]⟩
        · exact ⟨_, _, h1⟩
      rw [hkv] at d2
      have S3 := hid S2
      have RO := hid ho
      have RH := hid hr
      have JJ := hid hJ2
      have ST := hid st2
      clear S2 d0 d1 d3 hr ho hJ2 st2 hy HR SS e1 e2
      gi_wp2
      gi_region
      gi_wp2
      have hkid : ∀ c ∈ x.ks, c < s.length ∧ h c < h n := fun c hc => wf.kid_lt u hx hc
      have hkl : x.ks.length ≤ 40 := Nat.le_trans (nodup_length s.length _ (wf.nodup n x hx) (fun c hc => (hkid c hc).1)) wf.cap
      refine wpIn_loop (fun a wr => ∃ (i : Nat) (ds : List Nat) (O' : Nat → Prop) (u5 u21 u22 u23 u24 u25 u26 u32 : Value), i ≤ x.ks.length ∧ a = Act.mk
        #[Value.func (Fn.yield l) #[] #[], ptr b1, ptr b2, Value.pointer (some { block := w1.heap.size, off := 0 }),
          undef, u5, undef, Value.func (Fn.yield l) #[] #[], Value.int IntKind.i64 n, Value.bool true,
          Value.bool false, ptr bf, Value.pointer (some { block := bf, off := 0 }),
          Value.pointer (some { block := bf, off := 0 }), Value.slice (some { block := bn, off := 0 }) s.length cap,
          Value.int IntKind.i64 n, Value.pointer (some { block := bn, off := n * 4 }),
          Value.pointer (some { block := bn, off := n * 4 + 2 }), Value.slice sa x.ks.length sc,
          Value.int IntKind.i64 x.ks.length, Value.int IntKind.i64 i, u21, u22, u23, u24, u25, u26, undef,
          undef, undef, undef, undef, u32] (ds.map mark) ∧
        Stp O1 O' (w1.alloc (.cells #[.func (.yield l) #[] #[]] 83)) wr ∧ J (n :: (x.ks.take i).flatMap (allF s k)) O' wr ∧ Seen s F bf bn cap pn n b1 b2 w1.heap.size l wr ∧ ds.Nodup ∧ (∀ D ∈ ds, (w1.heap.size < D ∧ ¬ O' D) ∧ wr.heap[D]? = some (.deferred (some []))))
        (fun a _ => x.ks.length - (intOf (a.tmps.getD 20 undef)).toNat) ?start ?round
      case start =>
        have st1 := ST.out.drew
        have kd : Keeps (fun _ => False) w2 w2.drew := (Keeps.refl _ _).drew
        refine ⟨0, [], O2, _, _, _, _, _, _, _, _, Nat.zero_le _, rfl, st1, ?_, S3.out.keeps kd (fun _ _ e => e) (fun e => e) (fun e => e) (fun e => e), by simp, by simp⟩
        exact mJ _ _ _ _ JJ.out (kd.mono (fun _ _ e => e.elim))
      case round =>
        rintro a wr ⟨i, ds, O', u5, u21, u22, u23, u24, u25, u26, u32, hi, rfl, st, hJ, hS, hnd, hds⟩
        have hsz1 := hb1.size
        have hszr := st.keeps.size
        simp only [World.size_alloc] at hszr
        have gn : ∀ b, O' b → O1 b ∨ w1.heap.size + 1 ≤ b := fun b e => by have := st.gains b e; simpa using this
        have q1 : ¬ O' b1 := fun e => (gn _ e).elim p1 (fun e => by omega)
        have q2 : ¬ O' b2 := fun e => (gn _ e).elim p2 (fun e => by omega)
        have q3 : ¬ O' w1.heap.size := fun e => (gn _ e).elim p3 (fun e => by omega)
        have qF : ∀ b, F b → ¬ O' b := fun b hb e => (gn _ e).elim (hF1 b hb) (fun e => by have := (hF b hb).1; omega)
        by_cases hil : i < x.ks.length
        · obtain ⟨c, hc⟩ : ∃ c, x.ks[i]? = some c := ⟨_, List.getElem?_eq_getElem hil⟩
          have hcm : c ∈ x.ks := List.mem_of_getElem? hc
          obtain ⟨hcl, hch⟩ := hkid c hcm
          obtain ⟨r2, hr2, ho2, _, _, g2, _⟩ := hS.forest.look hx
          have hrr : r2 = r := by rw [RH.out] at hr2; cases hr2; rfl
          subst hrr
          have hrow := ho2.kids
          rw [hkv] at hrow
          rcases row_cases hrow with ⟨_, hl0⟩ | ⟨g, cc, hv⟩
          · omega
          cases hv
          have cel : wr.cell? ⟨g, i, none⟩ = some (.int .i64 (c : Int)) := by
            rw [hrow.cellAt i (by omega)]
            simp [intsV, hc]
          have hw := hS.whose
          have hilI : (i : Int) < x.ks.length := by omega
          have C : Hid (∀ n, CallsIn Fence.wide n _ _ _ _ _) := hid (fun n => callsIn_wide.2 (all_any bf c wr))
          have HS := hid hS
          have HJ := hid hJ
          have HST := hid st
          have HDS := hid hds
          have HND := hid hnd
          have HC := hid hc
          clear hS hJ hds hnd hc g2 hrow ho2 hr2 st
          gi_wp2_with (refine ⟨trivial, ?_⟩; gi_at_call 90; refine (C.out _).mono ?_; rintro e w3 ⟨rfl, rfl⟩)
          obtain ⟨wb, hwb⟩ : ∃ wb, (wr.alloc (.cells #[ptr bf] 91)).alloc (.cells #[.int .i64 (c : Int)] 3) = wb := ⟨_, rfl⟩
          have hszb : wb.heap.size = wr.heap.size + 2 := by rw [← hwb]; simp
          have hkb : Keeps (fun _ => False) wr wb := by rw [← hwb]; exact ((Keeps.refl _ _).alloc _).alloc _
          have SB : Seen s F bf bn cap pn n b1 b2 w1.heap.size l wb := HS.out.keeps hkb (fun _ _ e => e) (fun e => e) (fun e => e) (fun e => e)
          have cb1 : wb.cell? ⟨wr.heap.size + 1, 0, none⟩ = some (.int .i64 (c : Int)) := by
            have := cell_of_heap (heap_alloc_new (wr.alloc (.cells #[ptr bf] 91)) (.cells #[.int .i64 (c : Int)] 3)) 0
            rw [hwb, World.size_alloc] at this
            exact this
          have cb2 : wb.cell? ⟨wr.heap.size, 0, none⟩ = some (ptr bf) := by
            have := (Keeps.refl (fun _ => False) (wr.alloc (.cells #[ptr bf] 91))).alloc (.cells #[.int .i64 (c : Int)] 3)
            rw [hwb] at this
            exact this.cell (cell_of_heap (heap_alloc_new wr _) 0) (fun e => e)
          have hOr : ∀ b, O' b → b < wr.heap.size := HST.out.there
          rw [hwb]
          have hxs : (n :: (x.ks.take i).flatMap (allF s k)) ++ allF s k c <+: allF s (k + 1) n := by
            refine ⟨(x.ks.drop (i + 1)).flatMap (allF s k), ?_⟩
            simp only [allF, kidsOf_eq hx, List.cons_append]
            congr 1
            have e1 : x.ks.take i ++ c :: x.ks.drop (i + 1) = x.ks := by
              obtain ⟨hil', hce⟩ := List.getElem?_eq_some_iff.1 HC.out
              rw [← hce, ← List.drop_eq_getElem_cons, List.take_append_drop]
            conv => rhs; rw [← e1]
            simp
          refine range_mine (gf := 138) (lb := #[ptr (wr.heap.size + 1), ptr wr.heap.size]) rfl (enters_of Tryz.func138 (by kernel_rfl) rfl) rfl (O := O') (fun b e => by have := hOr b e; omega)
            (ih c hcl (by omega) wb O' _ _ SB.forest (fun b hb => ⟨by have := (hF b hb).1; omega, qF b hb⟩) cb1 cb2 (fun e => by have := hOr _ e; omega) (fun e => by have := hOr _ e; omega))
            (fun pre O3 W => J ((n :: (x.ks.take i).flatMap (allF s k)) ++ pre) O3 W ∧ Stp O' O3 wb W) (fun pre O3 W => Jx ((n :: (x.ks.take i).flatMap (allF s k)) ++ pre) O3 W ∧ Stp O' O3 wb W) ?mI ?mIx ?h0 
            (fun y => Act.mk #[Value.func (Fn.yield l) #[] #[], ptr b1, ptr b2, Value.pointer (some { block := w1.heap.size, off := 0 }), undef, Value.int IntKind.i64 c, Value.int IntKind.i64 y,
                Value.func (Fn.yield l) #[] #[], Value.int IntKind.i64 n, Value.bool true, Value.bool false, ptr bf,
                Value.pointer (some { block := bf, off := 0 }), Value.pointer (some { block := bf, off := 0 }),
                Value.slice (some { block := bn, off := 0 }) s.length cap, Value.int IntKind.i64 n,
                Value.pointer (some { block := bn, off := n * 4 }),
                Value.pointer (some { block := bn, off := n * 4 + 2 }),
                Value.slice (some { block := g, off := 0 }) x.ks.length sc, Value.int IntKind.i64 x.ks.length,
                Value.int IntKind.i64 i, Value.bool true, Value.pointer (some { block := g, off := i }),
                Value.int IntKind.i64 c, ptr bf, Value.int IntKind.i64 c, Value.func (.func 138) #[] #[ptr (wr.heap.size + 1), ptr wr.heap.size], Value.int IntKind.i64 y, undef, undef, undef, undef, u32] []) ?assign ?body ?done ?stop
          case mI =>
            rintro pre O3 X Y ⟨h1, h2⟩ hk
            exact ⟨mJ _ _ _ _ h1 (hk.mono (fun k _ e => ⟨e.1, by have := e.2; omega⟩)), stp_mine (Nat.le_refl _) h2 hk⟩
          case mIx =>
            rintro pre O3 X Y ⟨h1, h2⟩ hk
            exact ⟨mJx _ _ _ _ h1 (hk.mono (fun k _ e => ⟨e.1, by have := e.2; omega⟩)), stp_mine (Nat.le_refl _) h2 hk⟩
          case h0 => exact ⟨by rw [List.append_nil]; exact mJ _ _ _ _ HJ.out (hkb.mono (fun _ _ e => e.elim)), Stp.refl (fun b e => by have := hOr b e; omega)⟩
          case assign =>
            intro m l' y W K hK
            dsimp only [encN]
            gi_wp2
            exact hK
          case body =>
            rintro m l' pre y O3 W hpre hO3 ⟨hJ3, st3⟩
            have f3 := (SB.keeps st3.keeps qF q1 q2 q3).yield
            obtain ⟨fn2, tmps2, assign2, body2, hy2, hR2⟩ := hY (m - 1) _ y O3 W hJ3 (by rw [List.append_assoc]; exact ((List.prefix_append_right_inj _).2 hpre).trans hxs) hO3
            have HR2 : Hid (RoundIn (Fence.wide.inRound l') _ _ _ _ _ _ _ _ _) := hid hR2
            have ST3 := hid st3
            dsimp only [encN] at hy2
            have hdd : ∀ k : Nat, ((Fence.wide.inRound l').depth.isSome = true → 1 ≤ k) := fun k h => by simp [Fence.wide] at h
            clear hR2 hJ3 st3 hxs SB cb1 cb2 HJ HS HDS HND HST C S3 JJ ST RO RH
            gi_wp2_with ((try refine ⟨hdd _, ?_⟩); refine HR2.out.mono ?_; clear HR2; rintro e W4 ⟨O4, st4, (⟨rfl, hJ4⟩ | ⟨rfl, hX4⟩)⟩)
            · exact ⟨O4, st4, by rw [← List.append_assoc]; exact hJ4, ST3.out.trans st4⟩
            · exact ⟨O4, st4, by rw [← List.append_assoc]; exact hX4, ST3.out.trans st4⟩
          case done =>
            rintro O5 W st5 hn5 ⟨hJ5, _⟩ hD5
            have hk5 := st5.keeps
            have S5 := SB.keeps hk5 qF q1 q2 q3
            have stb : Stp O' O' wr wb := by rw [← hwb]; exact (Stp.alloc hOr _).trans (Stp.alloc (fun b e => by have := hOr b e; simp; omega) _)
            have HFIN := hid (And.intro hJ5 (And.intro st5 (And.intro hn5 (And.intro hD5 S5))))
            clear hJ5 st5 hn5 hD5 S5 hk5 SB cb1 cb2
            gi_wp2
            obtain ⟨hJ5, st5, hn5, hD5, S5⟩ := HFIN.out
            refine ⟨⟨i + 1, wb.heap.size :: ds, O5, _, _, _, _, _, _, _, _, hil, rfl, HST.out.trans (stb.trans st5), ?_, S5, ?_, ?_⟩, ?_⟩
            · rw [List.take_add_one, HC.out]
              simpa using hJ5
            · refine List.nodup_cons.2 ⟨fun hm => ?_, HND.out⟩
              have := heap_lt (HDS.out _ hm).2
              omega
            · intro D hm
              rcases List.mem_cons.1 hm with rfl | hm
              · exact ⟨⟨by omega, hn5⟩, hD5⟩
              · obtain ⟨⟨d1, d2⟩, d3⟩ := HDS.out D hm
                have hdl := heap_lt d3
                refine ⟨⟨d1, fun e => (st5.gains D e).elim d2 (fun e => by omega)⟩, ?_⟩
                rw [st5.keeps.block D (by omega) d2, hkb.block D hdl (fun e => e)]
                exact d3
            · show x.ks.length - ((i : Int) + 1).toNat < x.ks.length - ((i : Int)).toNat
              omega
          case stop =>
            rintro O5 pre W hpre st5 hn5 ⟨hX5, _⟩ hD5
            have stb : Stp O' O' wr wb := by rw [← hwb]; exact (Stp.alloc hOr _).trans (Stp.alloc (fun b e => by have := hOr b e; simp; omega) _)
            gi_wp2
            have hds : ∀ D ∈ wb.heap.size :: ds, (w1.heap.size ≤ D ∧ ¬ O5 D) ∧ W.heap[D]? = some (.deferred (some [])) := by
              intro D hm
              rcases List.mem_cons.1 hm with rfl | hm
              · exact ⟨⟨by omega, hn5⟩, hD5⟩
              · obtain ⟨⟨d1, d2⟩, d3⟩ := HDS.out D hm
                have hdl := heap_lt d3
                refine ⟨⟨by omega, fun e => (st5.gains D e).elim d2 (fun e => by omega)⟩, ?_⟩
                rw [st5.keeps.block D (by omega) d2, hkb.block D hdl (fun e => e)]
                exact d3
            have stA := (Stp.alloc hlt (.cells #[.func (.yield l) #[] #[]] 83)).trans (HST.out.trans (stb.trans st5))
            refine leaves_marks (wb.heap.size :: ds) _ (List.nodup_cons.2 ⟨fun hm => ?_, HND.out⟩) (fun D hm => (hds D hm).2) (fun w' hk => ⟨_, results_none rfl _ _ _, ⟨_, rfl⟩, O5, (left_ok stA (fun D hm => (hds D hm).1) hk).1, .inr ⟨_, ?_, mJx _ _ _ _ hX5 (left_ok stA (fun D hm => (hds D hm).1) hk).2⟩⟩)
            · have := heap_lt (HDS.out _ hm).2
              omega
            · exact ((List.prefix_append_right_inj _).2 hpre).trans hxs
        · obtain rfl : i = x.ks.length := by omega
          have hilI : ¬ (x.ks.length : Int) < x.ks.length := by omega
          have HJ := hid hJ
          have HST := hid st
          have HDS := hid hds
          have HND := hid hnd
          clear hJ st hds hnd hS
          gi_wp2
          have stA := (Stp.alloc hlt (.cells #[.func (.yield l) #[] #[]] 83)).trans HST.out
          have hds2 : ∀ D ∈ ds, w1.heap.size ≤ D ∧ ¬ O' D := fun D hm => ⟨by have := (HDS.out D hm).1.1; omega, (HDS.out D hm).1.2⟩
          refine leaves_marks ds _ HND.out (fun D hm => (HDS.out D hm).2) (fun w' hk => ⟨_, results_none rfl _ _ _, ⟨_, rfl⟩, O', (left_ok stA hds2 hk).1, .inl ?_⟩)
          have := mJ _ _ _ _ HJ.out (left_ok stA hds2 hk).2
          rw [List.take_of_length_le (Nat.le_refl _)] at this
          rw [allF, kidsOf_eq hx]
          exact this
    · gi_wp2
      refine leaves_marks [] _ (by simp) (by simp) (fun w' hk => ⟨_, results_none rfl _ _ _, ⟨_, rfl⟩, O2, ?_, .inr ⟨[n], ⟨(kidsOf s n).flatMap (allF s k), rfl⟩, ?_⟩⟩)
      · exact (left_ok ((Stp.alloc hlt _).trans st2) (ds := []) (by simp) hk).1
      · exact mJx _ _ _ _ hX2 (left_ok ((Stp.alloc hlt _).trans st2) (ds := []) (by simp) hk).2

end Go.Proofs.YtabogkonklplcaaGreatDoor

/- tree.holds. -/
namespace Go.Proofs.YtabogkonklplcaaGreatDoor
open Go.RowKit Go.Shelf
set_option linter.unusedSimpArgs false
set_option linter.unusedVariables false
attribute [local go_sem] Oper.semAt_some

set_option maxRecDepth 20000 in
set_option maxHeartbeats 4000000 in
theorem holds_any {s : List Nd} (wf : WF s) {h : Nat → Nat} {B : Nat} (u : Up s h B) {F : Nat → Prop} {bf bn cap : Nat} {pn : List PN} {w : World} (hD : PForAt w F bf bn cap pn s) (k n o : Nat) (hn : n < s.length) (hk : h n < k) :
    Calls Tryz.prog 173 #[ptr bf, .int .i64 n, .int .i64 o] w fun e w' => e = .returned (.bool (decide (o ∈ allF s k n))) ∧ Below w.heap.size w w' := by
  have HD := hid hD.narrow
  clear hD
  refine callsIn_wide.1 (callsIn_of_wp_marks (F := Fence.wide) (n := 1) Tryz.func173 rfl trivial ?_ rfl)
  simp only [Tryz.ntmps173, List.size_toArray, List.length_cons, List.length_nil, Nat.reduceAdd, Nat.reduceSub, Array.replicate_succ, Array.replicate_zero, List.push_toArray, List.append_toArray, List.nil_append, List.cons_append]
  have C : Hid (∀ (m : Nat) (W : World), CallsIn Fence.wide m _ _ _ _ _) := hid (fun m W => callsIn_wide.2 (all_any bf n W))
  gi_wp2_with (refine ⟨trivial, ?_⟩; gi_at_call 90; refine (C.out _ _).mono ?_; rintro e w3 ⟨rfl, rfl⟩)
  obtain ⟨wb, hwb⟩ : ∃ wb, (((w.alloc (.cells #[.int .i64 (o : Int)] 3)).alloc (.cells #[.bool false] 4)).alloc (.cells #[ptr bf] 91)).alloc (.cells #[.int .i64 (n : Int)] 3) = wb := ⟨_, rfl⟩
  have hszb : wb.heap.size = w.heap.size + 4 := by rw [← hwb]; simp
  have hbb : Below w.heap.size w wb := by rw [← hwb]; exact ((((Below.refl _ w).alloc (Nat.le_refl _) _).alloc (by simp) _).alloc (by simp; omega) _).alloc (by simp; omega) _
  have x0 : wb.heap[w.heap.size]? = some (.cells #[.int .i64 (o : Int)] 3 (0, 0)) := by
    rw [← hwb, Below.heap_alloc _ _ _ (by simp; omega), Below.heap_alloc _ _ _ (by simp; omega), Below.heap_alloc _ _ _ (by simp)]
    exact heap_alloc_new w _
  have x1 : wb.heap[w.heap.size + 1]? = some (.cells #[.bool false] 4 (0, 0)) := by
    rw [← hwb, Below.heap_alloc _ _ _ (by simp), Below.heap_alloc _ _ _ (by simp)]
    have := heap_alloc_new (w.alloc (.cells #[.int .i64 (o : Int)] 3)) (.cells #[.bool false] 4)
    rwa [World.size_alloc] at this
  have x2 : wb.heap[w.heap.size + 2]? = some (.cells #[ptr bf] 91 (0, 0)) := by
    rw [← hwb, Below.heap_alloc _ _ _ (by simp)]
    have := heap_alloc_new ((w.alloc (.cells #[.int .i64 (o : Int)] 3)).alloc (.cells #[.bool false] 4)) (.cells #[ptr bf] 91)
    rwa [World.size_alloc, World.size_alloc] at this
  have x3 : wb.heap[w.heap.size + 3]? = some (.cells #[.int .i64 (n : Int)] 3 (0, 0)) := by
    rw [← hwb]
    have := heap_alloc_new (((w.alloc (.cells #[.int .i64 (o : Int)] 3)).alloc (.cells #[.bool false] 4)).alloc (.cells #[ptr bf] 91)) (.cells #[.int .i64 (n : Int)] 3)
    rwa [World.size_alloc, World.size_alloc, World.size_alloc] at this
  rw [hwb]
  refine range_mine (gf := 138) (lb := #[ptr (w.heap.size + 3), ptr (w.heap.size + 2)]) rfl (enters_of Tryz.func138 (by kernel_rfl) rfl) rfl (O := fun b => b = w.heap.size + 1) (fun b e => by omega)
    (all1_ok wf u k n hn hk wb _ _ _ (HD.out.below hbb) (fun b hb => ⟨by have := hb.2; omega, by have := hb.2; omega⟩) (cell_of_heap x3 0) (cell_of_heap x2 0) (by omega) (by omega))
    (fun pre O3 W => O3 = (fun b => b = w.heap.size + 1) ∧ o ∉ pre ∧ W.heap[w.heap.size + 1]? = some (.cells #[.bool false] 4 (0, 0)) ∧ Stp (fun b => b = w.heap.size + 1) O3 wb W)
    (fun pre O3 W => O3 = (fun b => b = w.heap.size + 1) ∧ o ∈ pre ∧ W.heap[w.heap.size + 1]? = some (.cells #[.bool true] 4 (0, 0)) ∧ Stp (fun b => b = w.heap.size + 1) O3 wb W) ?mI ?mIx ?h0
    (fun y => Act.mk #[ptr bf, Value.int IntKind.i64 n, Value.int IntKind.i64 o, undef, undef,
          Value.pointer (some { block := w.heap.size, off := 0 }),
          Value.pointer (some { block := w.heap.size + 1, off := 0 }), Value.int IntKind.i64 y, ptr bf, Value.int IntKind.i64 n,
          Value.func (Fn.func 138) #[] #[ptr (w.heap.size + 1 + 1 + 1), ptr (w.heap.size + 1 + 1)], Value.int IntKind.i64 y, undef, undef,
          undef] []) ?assign ?body ?done ?stop
  case mI =>
    rintro pre O3 X Y ⟨rfl, h1, h2, h3⟩ hk
    exact ⟨rfl, h1, by rw [hk.block _ (heap_lt h2) (fun e => e.1 rfl)]; exact h2, stp_mine (Nat.le_refl _) h3 hk⟩
  case mIx =>
    rintro pre O3 X Y ⟨rfl, h1, h2, h3⟩ hk
    exact ⟨rfl, h1, by rw [hk.block _ (heap_lt h2) (fun e => e.1 rfl)]; exact h2, stp_mine (Nat.le_refl _) h3 hk⟩
  case h0 => exact ⟨rfl, by simp, x1, Stp.refl (fun b e => by omega)⟩
  case assign =>
    intro m l' y W K hK
    dsimp only [encN]
    gi_wp2
    exact hK
  case body =>
    rintro m l' pre y O3 W hpre hO3 ⟨rfl, h1, h2, h3⟩
    have f0 : W.cell? ⟨w.heap.size, 0, none⟩ = some (.int .i64 (o : Int)) := h3.keeps.cell (cell_of_heap x0 0) (by simp)
    have f1 : W.cell? ⟨w.heap.size + 1, 0, none⟩ = some (.bool false) := cell_of_heap h2 0
    have f2 := frozen_of_heap h2 0
    have H3 := hid h3
    have H2 := hid h2
    have H1 := hid h1
    clear h3 h2 h1 x0 x1 x2 x3 hpre
    by_cases hyo : y = o
    · subst hyo
      gi_wp2
      have hs : Stp (fun b => b = w.heap.size + 1) (fun b => b = w.heap.size + 1) W (W.setCell ⟨w.heap.size + 1, 0, none⟩ (.bool true)) :=
        ⟨(Keeps.refl (fun b => b = w.heap.size + 1) W).setCell (p := ⟨w.heap.size + 1, 0, none⟩) (.inl rfl) _, fun b e => .inl e, fun b e => by have := hO3 b e; simpa [World.setCell] using this⟩
      exact ⟨_, hs, rfl, by simp, by rw [heap_setCell_same W _ 0 _ _ _ H2.out]; rfl, H3.out.trans hs⟩
    · have hyI : ((y : Int) == (o : Int)) = false := by simp; omega
      have hyJ : ¬ (y : Int) = (o : Int) := by omega
      gi_wp2
      exact ⟨_, Stp.refl hO3, rfl, by simp [H1.out]; omega, H2.out, H3.out⟩
  case done =>
    rintro O5 W st5 hn5 ⟨rfl, h1, h2, h3⟩ hD5
    have f1 : W.cell? ⟨w.heap.size + 1, 0, none⟩ = some (.bool false) := cell_of_heap h2 0
    have f2 := frozen_of_heap h2 0
    have H5 := hid (And.intro st5 (And.intro h1 (And.intro h2 hD5)))
    clear st5 hn5 h1 h2 h3 hD5 x0 x1 x2 x3
    gi_wp2
    obtain ⟨st5, h1, h2, hD5⟩ := H5.out
    refine leaves_marks [wb.heap.size] _ (by simp) (fun D hm => ?_) (fun w' hk' => ⟨.bool false, ?_, ?_, ?_⟩)
    · obtain rfl : D = wb.heap.size := by simpa using hm
      rw [Below.heap_setCell _ _ _ _ (by simp; omega)]
      exact hD5
    · have hh := heap_setCell_same W _ 0 _ _ (.bool false) h2
      have hc : w'.cell? ⟨w.heap.size + 1, 0, none⟩ = some (.bool false) := hk'.cell (cell_of_heap hh 0) (by simp; omega)
      simp [results, Tryz.f173, go_sem, hc]
    · rw [decide_eq_false h1]
    · have k1 : Keeps (fun _ => False) w wb := Keeps.of_below hbb
      have k2 : Keeps (fun _ => False) w W := k1.trans (st5.keeps.mono (fun b _ e => .inr (by omega)))
      exact ((k2.setCell (p := ⟨w.heap.size + 1, 0, none⟩) (.inr (by simp)) _).trans (hk'.mono (fun b _ e => .inr (by simp at e; omega)))).below
  case stop =>
    rintro O5 pre W hpre st5 hn5 ⟨rfl, h1, h2, h3⟩ hD5
    have H5 := hid (And.intro st5 (And.intro h1 (And.intro h2 (And.intro hD5 hpre))))
    clear st5 hn5 h1 h2 h3 hD5 x0 x1 x2 x3 hpre
    gi_wp2
    obtain ⟨st5, h1, h2, hD5, hpre⟩ := H5.out
    refine leaves_marks [wb.heap.size] _ (by simp) (fun D hm => ?_) (fun w' hk' => ⟨.bool true, ?_, ?_, ?_⟩)
    · obtain rfl : D = wb.heap.size := by simpa using hm
      exact hD5
    · have hc : w'.cell? ⟨w.heap.size + 1, 0, none⟩ = some (.bool true) := hk'.cell (cell_of_heap h2 0) (by simp; omega)
      simp [results, Tryz.f173, go_sem, hc]
    · rw [decide_eq_true (hpre.subset h1)]
    · have k1 : Keeps (fun _ => False) w wb := Keeps.of_below hbb
      have k2 : Keeps (fun _ => False) w W := k1.trans (st5.keeps.mono (fun b _ e => .inr (by omega)))
      exact (k2.trans (hk'.mono (fun b _ e => .inr (by simp at e; omega)))).below

end Go.Proofs.YtabogkonklplcaaGreatDoor

/- marginref's Compare: two trees; one tree. -/
namespace Go.Proofs.YtabogkonklplcaaGreatDoor
open Go.RowKit
set_option linter.unusedSimpArgs false
set_option linter.unusedVariables false

section
variable {w : World} {F : Nat → Prop} {bd bn cap : Nat} {rn : List RN} {rv : Value} {s : List Nd} {rs : List Sp}

set_option maxRecDepth 20000 in
set_option maxHeartbeats 1000000 in
theorem compare_roots (wf : WF s) (hD : RDocAt w F bd bn cap rn rv s rs) (n k n2 k2 : Nat) (tf : Nat → Nat) (htf : ∀ m, m < s.length → IsTop s m (tf m)) (hn : n < s.length) (hn2 : n2 < s.length) (hf : placeFault s n k = (0, 0)) (hg : placeFault s n2 k2 = (0, 0)) (hne : tf n ≠ tf n2) :
    Calls Tryz.prog 80 #[.pointer (some ⟨bd, 0, none⟩), .agg #[.int .i64 n, .int .i64 k], .agg #[.int .i64 n2, .int .i64 k2]] w fun e w' => e = .returned (.tuple #[.int .i64 0, rfltV n2 9]) ∧ Below w.heap.size w w' := by
  have CF := hid (placeFits_any (hD.below (three_below w n k n2 k2)) n k)
  rw [hf] at CF
  have CG := hid (fun w' (hb : Below w.heap.size w w') => placeFits_any (hD.below hb) n2 k2)
  rw [hg] at CG
  have CT := hid (fun w' (hb : Below w.heap.size w w') m (hm : m < s.length) q => top_at (w := w'.drewN q) wf (hD.below (below_drewN hb q)) (htf m hm) hm)
  have hneI : ¬ (tf n : Int) = (tf n2 : Int) := fun e => hne (by omega)
  have hd : decide ((tf n : Int) = (tf n2 : Int)) = false := decide_eq_false hneI
  clear hD wf htf
  go_enter Tryz.func80, Tryz.ntmps80
  go_wp2_with (first
    | (go_at_call 127; refine (CG.out w2 HB2.out).mono ?_; rintro e w3 ⟨rfl, hb3⟩
       have hc3 := HC2.out.below hb3
       obtain ⟨-, -, -, ⟨cf0, cf1⟩⟩ := hc3.cells
       obtain ⟨-, ⟨ff0, ff1⟩⟩ := hc3.frozen
       have HC3 := hid hc3
       have HB3 := hid (HB2.out.trans (hb3.mono HB2.out.size))
       clear hc3 hb3)
    | (go_at_call 127; refine CF.out.mono ?_; rintro e w1 ⟨rfl, hb1⟩
       have HB1 := hid hb1
       clear hb1)
    | (go_at_call 124; have hc4 := HC3.out.put 0 0; refine (fine_any 0 0 _).mono ?_; rintro e w4 ⟨rfl, hb4⟩
       have hc5 := hc4.below hb4
       obtain ⟨⟨da0, da1⟩, ⟨db0, db1⟩, ⟨cz0, cz1⟩, ⟨cg0, cg1⟩⟩ := hc5.cells
       obtain ⟨⟨fz0, fz1⟩, -⟩ := hc5.frozen
       have HC5 := hid hc5
       have HB5 := hid (((HB3.out.setCell (p := ⟨w1.heap.size, 0, none⟩) (by have := HC3.out.gt; show w.heap.size ≤ w1.heap.size; omega) (.int .i64 0)).setCell (p := ⟨w1.heap.size, 1, none⟩) (by have := HC3.out.gt; show w.heap.size ≤ w1.heap.size; omega) (.int .i64 0)).trans (hb4.mono (by have := HB3.out.size; simpa using this)))
       clear hc4 hc5 hb4)
    | (go_at_call 124; refine (fine_any 0 0 _).mono ?_; rintro e w2 ⟨rfl, hb2⟩
       obtain ⟨hc2, hB2⟩ := Cmp.first HB1.out hb2
       obtain ⟨⟨ca0, ca1⟩, ⟨cb0, cb1⟩, -, -⟩ := hc2.cells
       have HC2 := hid hc2
       have HB2 := hid hB2
       clear hb2 hc2 hB2))
  go_quiet ((go_at_call 128; exact Calls.quiet_of_same (CT.out w4 HB5.out _ (by first | exact hn | exact hn2) _)))
  have hbne : ((tf n : Int) != (tf n2 : Int)) = true := by simpa using hneI
  rw [hbne]
  go_wp2_with (go_at_call 48; refine (no_any _ _ _).mono ?_; rintro e w5 ⟨rfl, h5⟩
               have hb5 : Below w4.heap.size w4 w5 := by rw [h5]; exact (below_drewN (Below.refl _ w4) nq).alloc (Nat.le_refl _) _
               have hc6 := HC5.out.below hb5
               obtain ⟨-, -, ⟨gz0, gz1⟩, -⟩ := hc6.cells
               obtain ⟨⟨gf0, gf1⟩, -⟩ := hc6.frozen
               have HB6 := hid (HB5.out.trans (hb5.mono HB5.out.size))
               clear h5 hb5 hc6)
  refine bodyPost_ret (v := .tuple #[.int .i64 0, rfltV n2 9]) (by simp [results, Tryz.results80, go_sem, *]) rfl ?_
  exact ⟨rfl, (HB6.out.setCell (p := ⟨w.heap.size + 1 + 1, 0, none⟩) (by show w.heap.size ≤ w.heap.size + 1 + 1; omega) _).setCell (p := ⟨w.heap.size + 1 + 1, 1, none⟩) (by show w.heap.size ≤ w.heap.size + 1 + 1; omega) _⟩
end

end Go.Proofs.YtabogkonklplcaaGreatDoor

/- marginref's Compare: one tree. -/
namespace Go.Proofs.YtabogkonklplcaaGreatDoor
open Go.RowKit
set_option linter.unusedSimpArgs false
set_option linter.unusedVariables false

/-- The order of two, said by two questions. -/
def cmpB : Bool → Bool → Int
  | true, _ => -1
  | false, true => 1
  | false, false => 0

section
variable {w : World} {F : Nat → Prop} {bd bn cap : Nat} {rn : List RN} {rv : Value} {s : List Nd} {rs : List Sp}

set_option maxRecDepth 20000 in
set_option maxHeartbeats 1000000 in
theorem compare_one (wf : WF s) {h : Nat → Nat} {B : Nat} (u : Up s h B) (hD : RDocAt w F bd bn cap rn rv s rs) (n k n2 k2 : Nat) (tf : Nat → Nat) (htf : ∀ m, m < s.length → IsTop s m (tf m)) (hn : n < s.length) (hn2 : n2 < s.length) (hf : placeFault s n k = (0, 0)) (hg : placeFault s n2 k2 = (0, 0)) (he : tf n = tf n2)
    (qa qb : Int) (ha : IsWhere (plF s (B + 1) (tf n)) (n, k) qa) (hb : IsWhere (plF s (B + 1) (tf n)) (n2, k2) qb) (x y : Bool) (hx : decide (qa < qb) = x) (hy : decide (qb < qa) = y) :
    Calls Tryz.prog 80 #[.pointer (some ⟨bd, 0, none⟩), .agg #[.int .i64 n, .int .i64 k], .agg #[.int .i64 n2, .int .i64 k2]] w fun e w' => e = .returned (.tuple #[.int .i64 (cmpB x y), rfltV 0 0]) ∧ Below w.heap.size w w' := by
  have CA := hid (fun w' (hB : Below w.heap.size w w') => ahead_at wf u (hD.below hB) hn (htf n hn) ha hb)
  have CB := hid (fun w' (hB : Below w.heap.size w w') => ahead_at wf u (hD.below hB) hn2 (htf n2 hn2) (by rw [← he]; exact hb) (by rw [← he]; exact ha))
  rw [hx] at CA
  rw [hy] at CB
  have CF := hid (placeFits_any (hD.below (three_below w n k n2 k2)) n k)
  rw [hf] at CF
  have CG := hid (fun w' (hb : Below w.heap.size w w') => placeFits_any (hD.below hb) n2 k2)
  rw [hg] at CG
  have CT := hid (fun w' (hb : Below w.heap.size w w') m (hm : m < s.length) q => top_at (w := w'.drewN q) wf (hD.below (below_drewN hb q)) (htf m hm) hm)
  have heI : ((tf n : Int) != (tf n2 : Int)) = false := by simp [he]
  clear hD wf htf u ha hb hx hy
  go_enter Tryz.func80, Tryz.ntmps80
  go_wp2_with (first
    | (go_at_call 127; refine (CG.out w2 HB2.out).mono ?_; rintro e w3 ⟨rfl, hb3⟩
       have hc3 := HC2.out.below hb3
       obtain ⟨-, -, -, ⟨cf0, cf1⟩⟩ := hc3.cells
       obtain ⟨-, ⟨ff0, ff1⟩⟩ := hc3.frozen
       have HC3 := hid hc3
       have HB3 := hid (HB2.out.trans (hb3.mono HB2.out.size))
       clear hc3 hb3)
    | (go_at_call 127; refine CF.out.mono ?_; rintro e w1 ⟨rfl, hb1⟩
       have HB1 := hid hb1
       clear hb1)
    | (go_at_call 124; have hc4 := HC3.out.put 0 0; refine (fine_any 0 0 _).mono ?_; rintro e w4 ⟨rfl, hb4⟩
       have hc5 := hc4.below hb4
       obtain ⟨⟨da0, da1⟩, ⟨db0, db1⟩, ⟨cz0, cz1⟩, ⟨cg0, cg1⟩⟩ := hc5.cells
       obtain ⟨⟨fz0, fz1⟩, -⟩ := hc5.frozen
       have HC5 := hid hc5
       have HB5 := hid (((HB3.out.setCell (p := ⟨w1.heap.size, 0, none⟩) (by have := HC3.out.gt; show w.heap.size ≤ w1.heap.size; omega) (.int .i64 0)).setCell (p := ⟨w1.heap.size, 1, none⟩) (by have := HC3.out.gt; show w.heap.size ≤ w1.heap.size; omega) (.int .i64 0)).trans (hb4.mono (by have := HB3.out.size; simpa using this)))
       clear hc4 hc5 hb4)
    | (go_at_call 124; refine (fine_any 0 0 _).mono ?_; rintro e w2 ⟨rfl, hb2⟩
       obtain ⟨hc2, hB2⟩ := Cmp.first HB1.out hb2
       obtain ⟨⟨ca0, ca1⟩, ⟨cb0, cb1⟩, -, -⟩ := hc2.cells
       have HC2 := hid hc2
       have HB2 := hid hB2
       clear hb2 hc2 hB2))
  go_quiet ((go_at_call 128; exact Calls.quiet_of_same (CT.out w4 HB5.out _ (by first | exact hn | exact hn2) _)))
  have HB5q := hid (below_drewN HB5.out nq)
  have HC5q := hid (HC5.out.below (below_drewN (Below.refl _ w4) nq))
  clear HB5
  cases x <;> cases y
  all_goals
    go_wp2_with (first
      | (go_at_call 129; refine (CB.out w6 HB6.out).mono ?_; rintro e w7 ⟨rfl, hb7⟩
         have hc7 := HC6.out.below hb7
         obtain ⟨-, -, ⟨kz0, kz1⟩, -⟩ := hc7.cells
         obtain ⟨⟨kf0, kf1⟩, -⟩ := hc7.frozen
         have HB7 := hid (HB6.out.trans (hb7.mono HB6.out.size))
         clear hb7 hc7)
      | (go_at_call 129; refine (CA.out _ HB5q.out).mono ?_; rintro e w6 ⟨rfl, hb6⟩
         have hc6 := HC5q.out.below hb6
         obtain ⟨⟨ga0, ga1⟩, ⟨gb0, gb1⟩, -, -⟩ := hc6.cells
         have HC6 := hid hc6
         have HB6 := hid (HB5q.out.trans (hb6.mono HB5q.out.size))
         clear hb6 hc6))
    first
      | (refine bodyPost_ret (v := .tuple #[.int .i64 0, rfltV 0 0]) (by simp [results, Tryz.results80, go_sem, *]) rfl ?_; exact ⟨rfl, (HB7.out.setCell (p := ⟨w.heap.size + 1 + 1, 0, none⟩) (by show w.heap.size ≤ w.heap.size + 1 + 1; omega) _).setCell (p := ⟨w.heap.size + 1 + 1, 1, none⟩) (by show w.heap.size ≤ w.heap.size + 1 + 1; omega) _⟩)
      | (refine bodyPost_ret (v := .tuple #[.int .i64 1, rfltV 0 0]) (by simp [results, Tryz.results80, go_sem, *]) rfl ?_; exact ⟨rfl, (HB7.out.setCell (p := ⟨w.heap.size + 1 + 1, 0, none⟩) (by show w.heap.size ≤ w.heap.size + 1 + 1; omega) _).setCell (p := ⟨w.heap.size + 1 + 1, 1, none⟩) (by show w.heap.size ≤ w.heap.size + 1 + 1; omega) _⟩)
      | (refine bodyPost_ret (v := .tuple #[.int .i64 (-1), rfltV 0 0]) (by simp [results, Tryz.results80, go_sem, *]) rfl ?_; exact ⟨rfl, (HB7.out.setCell (p := ⟨w.heap.size + 1 + 1, 0, none⟩) (by show w.heap.size ≤ w.heap.size + 1 + 1; omega) _).setCell (p := ⟨w.heap.size + 1 + 1, 1, none⟩) (by show w.heap.size ≤ w.heap.size + 1 + 1; omega) _⟩)
end

end Go.Proofs.YtabogkonklplcaaGreatDoor

/- The law's argument, read as data: a script. -/
namespace Go.Proofs.YtabogkonklplcaaGreatDoor
open Go.ChangeShapes Go.WideShapes Go.ChangeAt Go.RowKit Go.Deep
set_option linter.unusedSimpArgs false
set_option linter.unusedVariables false

theorem Tryz.cells39 : Tryz.prog.cellsOf 39 = 10 := by kernel_rfl
theorem Tryz.cells37 : Tryz.prog.cellsOf 37 = 2 := by kernel_rfl
theorem Tryz.cells3 : Tryz.prog.cellsOf 3 = 1 := by kernel_rfl
theorem Tryz.cells9 : Tryz.prog.cellsOf 9 = 1 := by kernel_rfl

theorem wf_i64 {n : Int} (h : (Lit.int .i64 n).wf = true) : -9223372036854775808 ≤ n ∧ n ≤ 9223372036854775807 := by
  simpa [Lit.wf, IntKind.min, IntKind.max, IntKind.signed, IntKind.bits] using h

section
variable {H : Type} {enc : TypeId × Value → H} {w : World} {sp : Nat → Bool} {held : Bool}

theorem place_open {n : Nat} {c0 c1 : Value} {x : DataW H × List MemPlace} (h : DataW.trod enc Tryz.prog w 0 sp held n 37 [c0, c1] = some x) : ∃ a b : Int, c0 = .int .i64 a ∧ c1 = .int .i64 b := by
  obtain ⟨xs, m, rfl, rfl, hl, hxl, hf⟩ := DataW.trod_struct Tryz.underlying37 h
  match xs, hxl with
  | [y0, y1], _ =>
    have h0 := hf 0 _ rfl
    have h1 := hf 1 _ rfl
    simp [Tryz.cells3] at h0 h1
    obtain ⟨a, ha, _⟩ := DataW.trod_int Tryz.underlying3 h0
    obtain ⟨b, hb, _⟩ := DataW.trod_int Tryz.underlying3 h1
    exact ⟨a, b, by simpa using ha, by simpa using hb⟩

set_option maxRecDepth 20000 in
theorem op_open {n : Nat} {cs : List Value} {x : DataW H × List MemPlace} (h : DataW.trod enc Tryz.prog w 0 sp held n 39 cs = some x) :
    ∃ o : OpR, cs = o.cells ∧ -9223372036854775808 ≤ o.D ∧ o.D ≤ 9223372036854775807 ∧ o.S.size ≤ Rows.uptoBulk x.1 := by
  obtain ⟨xs, m, rfl, rfl, hl, hxl, hf⟩ := DataW.trod_struct Tryz.underlying39 h
  rw [Tryz.cells39] at hl
  match cs, hl with
  | [c0, c1, c2, c3, c4, c5, c6, c7, c8, c9], _ =>
    match xs, hxl with
    | [y0, y1, y2, y3, y4, y5, y6, y7], _ =>
      have h0 := hf 0 _ rfl
      have h1 := hf 1 _ rfl
      have h2 := hf 2 _ rfl
      have h3 := hf 3 _ rfl
      have h4 := hf 4 _ rfl
      have h5 := hf 5 _ rfl
      have h6 := hf 6 _ rfl
      have h7 := hf 7 _ rfl
      simp [Tryz.cells3, Tryz.cells9, Tryz.cells37] at h0 h1 h2 h3 h4 h5 h6 h7
      obtain ⟨k0, e0, _⟩ := DataW.trod_int Tryz.underlying3 h0
      obtain ⟨k1, e1, _, w1⟩ := DataW.trod_int Tryz.underlying3 h1
      obtain ⟨k2, e2, _⟩ := DataW.trod_int Tryz.underlying3 h2
      obtain ⟨k3, e3, _⟩ := DataW.trod_int Tryz.underlying3 h3
      obtain ⟨k4, e4, _⟩ := DataW.trod_int Tryz.underlying3 h4
      obtain ⟨s5, e5, hy5, _⟩ := DataW.trod_string Tryz.underlying9 h5
      obtain ⟨p0, p1, e6, e7⟩ := place_open h6
      obtain ⟨q0, q1, e8, e9⟩ := place_open h7
      have hw := wf_i64 w1
      refine ⟨⟨k0, k1, k2, k3, k4, s5, p0, p1, q0, q1⟩, ?_, hw.1, hw.2, ?_⟩
      · simp at e0 e1 e2 e3 e4 e5
        subst e0 e1 e2 e3 e4 e5 e6 e7 e8 e9
        rfl
      · rw [hy5]
        simp only [List.map_cons, List.map_nil, Rows.uptoBulk, Rows.uptoBulkAll, Array.length_toList]
        show s5.size ≤ _
        have : s5.data.size = s5.size := rfl
        omega

theorem bulkAll_mem {l : List (DataW H)} {d : DataW H} (h : d ∈ l) : Rows.uptoBulk d ≤ Rows.uptoBulkAll l := by
  induction l with
  | nil => simp at h
  | cons a l ih =>
    simp only [Rows.uptoBulkAll]
    rcases List.mem_cons.1 h with rfl | h
    · omega
    · have := ih h; omega
theorem bulk_pos (d : DataW H) : 1 ≤ Rows.uptoBulk d := by
  cases d with
  | lit l => cases l <;> simp [Rows.uptoBulk]
  | nil => simp [Rows.uptoBulk]
  | ptr d => simp [Rows.uptoBulk]
  | slice a b => simp [Rows.uptoBulk]
  | agg l => simp [Rows.uptoBulk]
  | iface n d => simp [Rows.uptoBulk]
  | map l => simp [Rows.uptoBulk]
  | held h => simp [Rows.uptoBulk]
theorem bulkAll_length (l : List (DataW H)) : l.length ≤ Rows.uptoBulkAll l := by
  induction l with
  | nil => simp
  | cons a l ih =>
    have := bulk_pos a
    simp only [Rows.uptoBulkAll, List.length_cons]
    omega

/-- The argument is a script. -/
theorem script_open {n : Nat} {v : Value} {x : DataW H × List MemPlace} (h : DataW.trod enc Tryz.prog w 0 sp held n 22 [v] = some x) (hb : Rows.uptoBulk x.1 ≤ 1048576) :
    ∃ (a : Option Addr) (g off c : Nat) (script : List OpR), v = .slice a script.length c ∧ (0 < script.length → a = some ⟨g, off, none⟩) ∧ ScriptAt w g off script ∧ (∀ o ∈ script, OpOk o) ∧ script.length + 6 < lots ∧ (0 < script.length → g < w.heap.size) := by
  rcases open_slice Tryz.underlying22 h with ⟨hcs, rfl⟩ | ⟨a, len, cap, m, k, D, Pl, hcs, _, hl, hm, hm2, rfl, hel⟩
  · obtain rfl : v = .slice none 0 0 := by simpa using hcs
    exact ⟨none, 0, 0, 0, [], rfl, by simp, fun i o ho => by simp at ho, by simp, by unfold lots; simp, by simp⟩
  · obtain rfl : v = .slice (some a) len cap := by simpa using hcs
    have hlm : len ≤ m := by rw [hm2]; split <;> omega
    rw [Tryz.cells39] at hel
    have hlen : len ≤ 1048576 := by
      have := bulkAll_length ((List.range len).map D)
      simp only [Rows.uptoBulk] at hb
      simp at this
      omega
    have hex : ∀ i, i < len → ∃ o : OpR, w.cells? 0 (a.add (i * 10)) 10 = some o.cells ∧ OpOk o := by
      intro i hi
      obtain ⟨cs', h1, h2⟩ := hel i (by omega)
      obtain ⟨o, rfl, d1, d2, hs⟩ := op_open h2
      refine ⟨o, h1, d1, d2, ?_⟩
      have h3 : Rows.uptoBulk (D i) ≤ Rows.uptoBulkAll ((List.range len).map D) := bulkAll_mem (List.mem_map.2 ⟨i, by simpa using hi, rfl⟩)
      simp only [Rows.uptoBulk] at hb
      simp only at hs
      unfold lots
      omega
    obtain ⟨f, hf⟩ := @choose_lt OpR ⟨⟨0, 0, 0, 0, 0, ⟨#[]⟩, 0, 0, 0, 0⟩⟩ len _ hex
    have hlen2 : ((List.range len).map f).length = len := by simp
    have get : ∀ (i : Nat) (o : OpR), ((List.range len).map f)[i]? = some o → i < len ∧ o = f i := by
      intro i o ho
      have hi : i < len := by have := (List.getElem?_eq_some_iff.1 ho).1; simpa using this
      rw [List.getElem?_map, List.getElem?_range hi] at ho
      exact ⟨hi, by simpa using ho.symm⟩
    have spot : 0 < len → a.spot = none ∧ a.block < w.heap.size := by
      intro h0
      obtain ⟨_, h1, h2⟩ := World.cells?_some (hf 0 h0).1
      have h3 := h2 0 (by simp)
      have h4 : ((f 0).cells)[0]? = some (.int .i64 (f 0).kind) := rfl
      rw [h4] at h3
      have e : (a.add (0 * 10)).add 0 = a := by simp [Addr.add]
      rw [e] at h3
      unfold World.cell? at h3
      cases hh : w.heap[a.block]? with
      | none => simp [hh] at h3
      | some ob =>
        refine ⟨?_, (Array.getElem?_eq_some_iff.1 hh).1⟩
        cases ob with
        | cells c t fz =>
          simp only [hh] at h3
          cases hs : a.spot with
          | none => rfl
          | some k => simp [hs] at h3
        | _ => simp [hh] at h3
    have el : ∀ o ∈ (List.range len).map f, OpOk o := by
      intro o ho
      obtain ⟨i, hi, rfl⟩ := List.mem_map.1 ho
      exact (hf i (by simpa using hi)).2
    refine ⟨some a, a.block, a.off, cap, (List.range len).map f, by rw [hlen2], ?_, ?_, el, by rw [hlen2]; unfold lots; omega, ?_⟩
    · rw [hlen2]
      intro h0
      have := (spot h0).1
      cases a
      simp_all
    · intro i o ho j u hj
      obtain ⟨hi, rfl⟩ := get i o ho
      obtain ⟨_, h1, h2⟩ := World.cells?_some (hf i hi).1
      have hj10 : j < 10 := (List.getElem?_eq_some_iff.1 hj).1
      have h3 := h2 j hj10
      rw [hj] at h3
      rw [← h3]
      have hsp := (spot (by omega)).1
      congr 1
      cases a with
      | mk b o sp =>
        simp only at hsp
        subst hsp
        simp only [Addr.add]
        split <;> split <;> simp_all <;> omega
    · rw [hlen2]
      exact fun h0 => (spot h0).2
end

end Go.Proofs.YtabogkonklplcaaGreatDoor
