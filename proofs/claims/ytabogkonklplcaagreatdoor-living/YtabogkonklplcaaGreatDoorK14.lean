import Derived.Test.YtabogkonklplcaaGreatDoorK11
import Derived.Deep.AppendLies
import Derived.Test.YtabogkonklplcaaGreatDoorK09
import Derived.Test.YtabogkonklplcaaGreatDoorK08
import Derived.Shelf.Abstract
import Derived.Shelf.RegionOpen
import Derived.OwnWalkIn
import Derived.TacticsInMore
import Derived.LoopNIn
import Derived.LoopIn
import Derived.Maps.AppendAt
import Derived.Maps.OwnIn
import Derived.Deep.RegionLaw
import Derived.Deep.RegionWith
import Derived.Deep.Cut
import Derived.Deep.CutRange

namespace Go.Proofs.YtabogkonklplcaaGreatDoor
open Go.RowKit
set_option linter.unusedSimpArgs false
set_option linter.unusedVariables false
section
variable {PD : PDT} {Q : Nat → Prop} {w0 w : World} {yb : Nat} {docs : List DocR}
end
end Go.Proofs.YtabogkonklplcaaGreatDoor

namespace Go.Proofs.YtabogkonklplcaaGreatDoor
open Go.RowKit
set_option linter.unusedSimpArgs false
set_option linter.unusedVariables false
section
variable {PD : PDT} {Q : Nat → Prop} {w0 w : World} {yb : Nat} {docs : List DocR} {own : Nat → Nat} {psv : Value}
theorem Inv.pushed (hPD : PDOk PD) (h : Inv PD Q w0 w yb docs own psv) {w1 w2 wA w3 : World} {bx bd g' cap' A : Nat} (b1 : Below w.heap.size w w1) (hA : w.heap.size ≤ A) (hA1 : A ≤ w1.heap.size) (pd : PD w1 (fun b => A ≤ b) bx ⟨[rootNd], []⟩)
    (b2 : Below w1.heap.size w1 w2) (rd : RDoc w2 (fun b => w1.heap.size ≤ b) bd [rootNd] []) (bA : Below w2.heap.size w2 wA) (hz : w2.heap.size < wA.heap.size)
    (hg : wA.grownBy w3 psv.ownBlock) (ho : w3.ownsRow 0 44 2 (.slice (some ⟨g', 0, none⟩) (docs.length + 1) cap') (docs.length + 1) ((docs.flatMap fun d => [ptr d.bx, ptr d.bd]) ++ [ptr bx, ptr bd]))
    (hgn : psv.ownBlock = some g' ∨ g' = wA.heap.size) :
    InvE PD Q w0 (w3.setCell ⟨yb, 0, none⟩ (.slice (some ⟨g', 0, none⟩) (docs.length + 1) cap')) yb (docs ++ [⟨bx, bd, ⟨[rootNd], []⟩⟩]) := by
  have z1 := b1.size
  have z2 := b2.size
  have zA := bA.size
  have z3 := hg.size
  have hbl := h.bl
  have hgl : g' < w3.heap.size := (ho.lt g' rfl).2
  have hyb : yb < w.heap.size := (h.ol yb (by rw [h.oy]; decide)).2
  have hps : ∀ b, psv.ownBlock = some b → b < w.heap.size ∧ own b = 1 ∧ b ≠ yb := fun b e => ⟨(h.ol b (by rw [(h.ops b e).1]; decide)).2, h.ops b e⟩
  have hgy : g' ≠ yb := by
    rcases hgn with e | e
    · exact (hps g' e).2.2
    · omega
  have kA : Below w.heap.size w wA := (b1.trans (b2.mono z1)).trans (bA.mono (by omega))
  have k3 : Keeps (fun b => psv.ownBlock = some b) wA w3 := Keeps.grown hg (fun k e => .inl e)
  have kW : Keeps (fun b => psv.ownBlock = some b ∨ b = yb) wA (w3.setCell ⟨yb, 0, none⟩ (.slice (some ⟨g', 0, none⟩) (docs.length + 1) cap')) :=
    (k3.mono (fun k _ e => .inl e)).setCell (p := ⟨yb, 0, none⟩) (.inl (.inr rfl)) _
  have zW : (w3.setCell ⟨yb, 0, none⟩ (.slice (some ⟨g', 0, none⟩) (docs.length + 1) cap')).heap.size = w3.heap.size := by simp
  have newK : ∀ {F : Nat → Prop}, (∀ b, F b → w.heap.size ≤ b) → ∀ b, F b → ¬ (psv.ownBlock = some b ∨ b = yb) := by
    intro F hF b hb e
    have := hF b hb
    rcases e with e | e
    · have := (hps b e).1; omega
    · omega
  refine ⟨fun b => if w.heap.size ≤ b then (if b = g' then 1 else if b < A then 0 else if b < w1.heap.size then 2 * docs.length + 2 else if b < w2.heap.size then 2 * docs.length + 3 else 0) else own b, .slice (some ⟨g', 0, none⟩) (docs.length + 1) cap', ?_⟩
  have hg2 : g' < w.heap.size ∨ w2.heap.size ≤ g' := by
    rcases hgn with e | e
    · exact .inl (hps g' e).1
    · exact .inr (by omega)
  refine ⟨?_, ?_, ?_, ?_, ?_, ?_, ?_, ?_⟩
  · obtain ⟨l0, a0, y0, he, hq⟩ := h.play
    have e1 : w3.heap[yb]? = _ := (k3.block yb (by omega) (fun e => (hps yb e).2.2 rfl)).trans ((kA.block yb hyb).trans hq)
    refine ⟨l0, a0, y0, he, ?_⟩
    rw [heap_setCell_same w3 yb 0 _ _ _ e1]; simp
  · rw [List.length_append, List.flatMap_append]
    simpa using row_setCell_other ho (p := ⟨yb, 0, none⟩) (by simp [Value.ownBlock]; exact hgy) _
  · rw [if_neg (by omega)]; exact h.oy
  · intro b e
    have e' : g' = b := by simpa [Value.ownBlock] using e
    subst e'
    refine ⟨?_, hgy⟩
    rcases hgn with e | e
    · have := hps g' e
      rw [if_neg (by omega)]; exact this.2.1
    · rw [if_pos (by omega), if_pos rfl]
  · intro b e
    rw [zW]
    split at e
    · refine ⟨hbl b (by omega), ?_⟩
      split at e
      · rename_i hb; rw [hb]; exact hgl
      · split at e
        · exact absurd rfl e
        · split at e
          · omega
          · split at e
            · omega
            · exact absurd rfl e
    · have := h.ol b e
      exact ⟨this.1, by omega⟩
  · intro b e; rw [zW] at e; exact hbl b (by omega)
  · refine (h.fr.trans (Keeps.of_below kA)).trans (kW.mono (fun k _ e => .inl ?_))
    rcases e with e | e
    · exact (h.ol k (by rw [(h.ops k e).1]; decide)).1
    · rw [e]; exact (h.ol yb (by rw [h.oy]; decide)).1
  · intro i d hd
    by_cases hi : i < docs.length
    · rw [List.getElem?_append_left hi] at hd
      obtain ⟨h1, h2, h3⟩ := h.doc i d hd
      have kA' := Keeps.of_below (F := fun _ => False) kA
      refine ⟨hPD.wider (hPD.keeps (hPD.keeps h1 kA' (fun _ _ e => e)) kW (fun b hb e => ?_)) (fun b hb => ?_), ((h2.keeps kA' (fun _ _ e => e)).keeps kW (fun b hb e => ?_)).wider (fun b hb => ?_), h3⟩
      · rcases e with e | e
        · have := (hps b e).2.1; omega
        · rw [e, h.oy] at hb; omega
      · have := (h.ol b (by omega)).2
        rw [if_neg (by omega)]; exact hb
      · rcases e with e | e
        · have := (hps b e).2.1; omega
        · rw [e, h.oy] at hb; omega
      · have := (h.ol b (by omega)).2
        rw [if_neg (by omega)]; exact hb
    · rw [List.getElem?_append_right (by omega)] at hd
      have hi1 := (List.getElem?_eq_some_iff.1 hd).1
      simp at hi1
      have ei : i = docs.length := by omega
      subst ei
      simp at hd
      subst hd
      have p1 := hPD.narrow pd
      have p2 := hPD.keeps p1 (Keeps.of_below (F := fun _ => False) b2) (fun _ _ e => e)
      have p3 := hPD.keeps p2 (Keeps.of_below (F := fun _ => False) bA) (fun _ _ e => e)
      have p4 := hPD.keeps p3 kW (newK (fun b hb => by omega))
      have r1 := rd.narrow
      have r2 := r1.keeps (Keeps.of_below (F := fun _ => False) bA) (fun _ _ e => e)
      have r3 := r2.keeps kW (newK (fun b hb => by omega))
      refine ⟨hPD.wider p4 (fun b hb => ?_), r3.wider (fun b hb => ?_), hPD.root⟩
      · rw [if_pos (by omega), if_neg (by omega), if_neg (by omega), if_pos (by omega)]
      · rw [if_pos (by omega), if_neg (by omega), if_neg (by omega), if_neg (by omega), if_pos (by omega)]
end
section
variable {PD : PDT} {G : World → Prop} {Q : Nat → Prop} {w0 w : World} {yb : Nat} {docs : List DocR}
end
end Go.Proofs.YtabogkonklplcaaGreatDoor

namespace Go.Proofs.YtabogkonklplcaaGreatDoor
open Go.RowKit
set_option linter.unusedSimpArgs false
set_option linter.unusedVariables false
structure OpR where
  kind : Int
  D : Int
  A : Int
  B : Int
  C : Int
  S : ByteArray
  p0 : Int
  p1 : Int
  q0 : Int
  q1 : Int
abbrev OpR.cells (o : OpR) : List Value := [.int .i64 o.kind, .int .i64 o.D, .int .i64 o.A, .int .i64 o.B, .int .i64 o.C, .string o.S, .int .i64 o.p0, .int .i64 o.p1, .int .i64 o.q0, .int .i64 o.q1]
abbrev OpR.val (o : OpR) : Value := opV o.kind o.D o.A o.B o.C o.S o.p0 o.p1 o.q0 o.q1
end Go.Proofs.YtabogkonklplcaaGreatDoor

namespace Go.Proofs.YtabogkonklplcaaGreatDoor
open Go.RowKit
set_option linter.unusedSimpArgs false
set_option linter.unusedVariables false
end Go.Proofs.YtabogkonklplcaaGreatDoor

namespace Go.Proofs.YtabogkonklplcaaGreatDoor
open Go.RowKit Go.Shelf
set_option linter.unusedSimpArgs false
set_option linter.unusedVariables false
attribute [local go_sem] Oper.semAt_some
set_option maxHeartbeats 400000 in
theorem all_any (bf : Nat) (c : Int) (w : World) : Calls Tryz.prog 90 #[ptr bf, .int .i64 c] w fun e w' =>
    e = .returned (.func (.func 138) #[] #[ptr (w.heap.size + 1), ptr w.heap.size]) ∧ w' = (w.alloc (.cells #[ptr bf] 91)).alloc (.cells #[.int .i64 c] 3) := by
  go_enter Tryz.func90, Tryz.ntmps90
  go_wp2
  go_ret
  exact ⟨by simp, rfl⟩
structure Seen (s : List Nd) (F : Nat → Prop) (bf bn cap : Nat) (pn : List PN) (n b1 b2 b3 l : Nat) (w : World) : Prop where
  forest : PForAt w F bf bn cap pn s
  number : w.cell? ⟨b1, 0, none⟩ = some (.int .i64 n)
  whose : w.cell? ⟨b2, 0, none⟩ = some (ptr bf)
  yield : w.cell? ⟨b3, 0, none⟩ = some (.func (.yield l) #[] #[])
theorem Seen.keeps {s : List Nd} {F O : Nat → Prop} {bf bn cap : Nat} {pn : List PN} {n b1 b2 b3 l : Nat} {w w' : World} (h : Seen s F bf bn cap pn n b1 b2 b3 l w) (hk : Keeps O w w') (hF : ∀ b, F b → ¬ O b) (o1 : ¬ O b1) (o2 : ¬ O b2) (o3 : ¬ O b3) : Seen s F bf bn cap pn n b1 b2 b3 l w' :=
  ⟨h.forest.keeps hk hF, hk.cell h.number o1, hk.cell h.whose o2, hk.cell h.yield o3⟩
set_option maxRecDepth 20000 in
set_option maxHeartbeats 4000000 in
theorem all1_ok {s : List Nd} (wf : WF s) {h : Nat → Nat} {B : Nat} (u : Up s h B) {F : Nat → Prop} {bf bn cap : Nat} {pn : List PN} : ∀ (k n : Nat), n < s.length → h n < k → ∀ (w : World) (O : Nat → Prop) (b1 b2 : Nat), PForAt w F bf bn cap pn s → (∀ b, F b → b < w.heap.size ∧ ¬ O b) →
    w.cell? ⟨b1, 0, none⟩ = some (.int .i64 n) → w.cell? ⟨b2, 0, none⟩ = some (ptr bf) → ¬ O b1 → ¬ O b2 → SeqOk Tryz.prog 138 #[ptr b1, ptr b2] (allF s k n) w O := by
  intro k
  induction k with
  | zero => intro n _ hh; omega
  | succ k ih =>
    intro n hn hh w O b1 b2 hD hF c1 c2 o1 o2 l J Jx O1 w1 hb hO1 hlt mJ mJx hY hJ0
    have hb1 := hb
    have l1 := World.block_lt_of_cell? w _ c1
    have l2 := World.block_lt_of_cell? w _ c2
    have hF1 : ∀ b, F b → ¬ O1 b := fun b hb1 e => (hO1 b e).elim (hF b hb1).2 (fun e => by have := (hF b hb1).1; omega)
    have p1 : ¬ O1 b1 := fun e => (hO1 _ e).elim o1 (fun e => by simp at l1; omega)
    have p2 : ¬ O1 b2 := fun e => (hO1 _ e).elim o2 (fun e => by simp at l2; omega)
    have p3 : ¬ O1 w1.heap.size := fun e => by have := hlt _ e; omega
    have hk0 : Keeps O1 w1 (w1.alloc (.cells #[.func (.yield l) #[] #[]] 83)) := (Keeps.refl _ _).alloc _
    have S0 : Seen s F bf bn cap pn n b1 b2 w1.heap.size l (w1.alloc (.cells #[.func (.yield l) #[] #[]] 83)) :=
      ⟨(hD.below hb).keeps hk0 hF1, hk0.cell ((hb.cell (p := ⟨b1, 0, none⟩) l1).trans c1) p1, hk0.cell ((hb.cell (p := ⟨b2, 0, none⟩) l2).trans c2) p2, cell_of_heap (heap_alloc_new w1 _) 0⟩
    have hJ1 : J [] O1 (w1.alloc (.cells #[.func (.yield l) #[] #[]] 83)) := mJ _ _ _ _ hJ0 ((Keeps.refl _ _).alloc _)
    obtain ⟨fn, tmps, assign, body, hy, hR⟩ := hY 0 [] n O1 _ hJ1 ⟨(kidsOf s n).flatMap (allF s k), rfl⟩ (fun b e => by have := hlt b e; simp; omega)
    have e1 := S0.number
    have e2 := S0.yield
    have SS := hid S0
    have HR := hid hR
    refine callsIn_wide.1 (callsIn_of_wp_marks (F := Fence.wide) (n := 1) Tryz.func138 rfl trivial ?_ rfl)
    clear hR S0 hJ1 hJ0 c1 c2 hb hD
    simp only [Tryz.ntmps138, List.size_toArray, List.length_cons, List.length_nil, Nat.reduceAdd, Nat.reduceSub, Array.replicate_succ, Array.replicate_zero, List.push_toArray, List.append_toArray, List.nil_append, List.cons_append]
    dsimp only [encN] at hy
    gi_wp2
    refine HR.out.mono ?_
    rintro e w2 ⟨O2, st2, (⟨rfl, hJ2⟩ | ⟨rfl, hX2⟩)⟩
    · have S2 := SS.out.keeps st2.keeps hF1 p1 p2 p3
      have f1 := S2.number
      have f2 := S2.whose
      have h0 := S2.forest.nodesCell
      have hx : s[n]? = some s[n] := List.getElem?_eq_getElem hn
      obtain ⟨x, hxx⟩ : ∃ x, x = s[n] := ⟨_, rfl⟩
      rw [← hxx] at hx
      clear hxx
      obtain ⟨r, hr, ho, d0, d1, d2, d3⟩ := S2.forest.look hx
      obtain ⟨sa, sc, hkv⟩ : ∃ a c, r.kv = .slice a x.ks.length c := by
        rcases row_cases ho.kids with ⟨h1, h2⟩ | ⟨g, c, h1⟩
        · exact ⟨none, 0, by rw [h1, h2]⟩
        · exact ⟨_, _, h1⟩
      rw [hkv] at d2
      have S3 := hid S2
      have RO := hid ho
      have RH := hid hr
      have JJ := hid hJ2
      have ST := hid st2
      clear S2 d0 d1 d3 hr ho hJ2 st2 hy HR SS e1 e2
      gi_wp2
      gi_region
      gi_wp2
      have hkid : ∀ c ∈ x.ks, c < s.length ∧ h c < h n := fun c hc => wf.kid_lt u hx hc
      have hkl : x.ks.length ≤ 40 := Nat.le_trans (nodup_length s.length _ (wf.nodup n x hx) (fun c hc => (hkid c hc).1)) wf.cap
      refine wpIn_loop (fun a wr => ∃ (i : Nat) (ds : List Nat) (O' : Nat → Prop) (u5 u21 u22 u23 u24 u25 u26 u32 : Value), i ≤ x.ks.length ∧ a = Act.mk
        #[Value.func (Fn.yield l) #[] #[], ptr b1, ptr b2, Value.pointer (some { block := w1.heap.size, off := 0 }),
          undef, u5, undef, Value.func (Fn.yield l) #[] #[], Value.int IntKind.i64 n, Value.bool true,
          Value.bool false, ptr bf, Value.pointer (some { block := bf, off := 0 }),
          Value.pointer (some { block := bf, off := 0 }), Value.slice (some { block := bn, off := 0 }) s.length cap,
          Value.int IntKind.i64 n, Value.pointer (some { block := bn, off := n * 4 }),
          Value.pointer (some { block := bn, off := n * 4 + 2 }), Value.slice sa x.ks.length sc,
          Value.int IntKind.i64 x.ks.length, Value.int IntKind.i64 i, u21, u22, u23, u24, u25, u26, undef,
          undef, undef, undef, undef, u32] (ds.map mark) ∧
        Stp O1 O' (w1.alloc (.cells #[.func (.yield l) #[] #[]] 83)) wr ∧ J (n :: (x.ks.take i).flatMap (allF s k)) O' wr ∧ Seen s F bf bn cap pn n b1 b2 w1.heap.size l wr ∧ ds.Nodup ∧ (∀ D ∈ ds, (w1.heap.size < D ∧ ¬ O' D) ∧ wr.heap[D]? = some (.deferred (some []))))
        (fun a _ => x.ks.length - (intOf (a.tmps.getD 20 undef)).toNat) ?start ?round
      case start =>
        have st1 := ST.out.drew
        have kd : Keeps (fun _ => False) w2 w2.drew := (Keeps.refl _ _).drew
        refine ⟨0, [], O2, _, _, _, _, _, _, _, _, Nat.zero_le _, rfl, st1, ?_, S3.out.keeps kd (fun _ _ e => e) (fun e => e) (fun e => e) (fun e => e), by simp, by simp⟩
        exact mJ _ _ _ _ JJ.out (kd.mono (fun _ _ e => e.elim))
      case round =>
        rintro a wr ⟨i, ds, O', u5, u21, u22, u23, u24, u25, u26, u32, hi, rfl, st, hJ, hS, hnd, hds⟩
        have hsz1 := hb1.size
        have hszr := st.keeps.size
        simp only [World.size_alloc] at hszr
        have gn : ∀ b, O' b → O1 b ∨ w1.heap.size + 1 ≤ b := fun b e => by have := st.gains b e; simpa using this
        have q1 : ¬ O' b1 := fun e => (gn _ e).elim p1 (fun e => by omega)
        have q2 : ¬ O' b2 := fun e => (gn _ e).elim p2 (fun e => by omega)
        have q3 : ¬ O' w1.heap.size := fun e => (gn _ e).elim p3 (fun e => by omega)
        have qF : ∀ b, F b → ¬ O' b := fun b hb e => (gn _ e).elim (hF1 b hb) (fun e => by have := (hF b hb).1; omega)
        by_cases hil : i < x.ks.length
        · obtain ⟨c, hc⟩ : ∃ c, x.ks[i]? = some c := ⟨_, List.getElem?_eq_getElem hil⟩
          have hcm : c ∈ x.ks := List.mem_of_getElem? hc
          obtain ⟨hcl, hch⟩ := hkid c hcm
          obtain ⟨r2, hr2, ho2, _, _, g2, _⟩ := hS.forest.look hx
          have hrr : r2 = r := by rw [RH.out] at hr2; cases hr2; rfl
          subst hrr
          have hrow := ho2.kids
          rw [hkv] at hrow
          rcases row_cases hrow with ⟨_, hl0⟩ | ⟨g, cc, hv⟩
          · omega
          cases hv
          have cel : wr.cell? ⟨g, i, none⟩ = some (.int .i64 (c : Int)) := by
            rw [hrow.cellAt i (by omega)]
            simp [intsV, hc]
          have hw := hS.whose
          have hilI : (i : Int) < x.ks.length := by omega
          have C : Hid (∀ n, CallsIn Fence.wide n _ _ _ _ _) := hid (fun n => callsIn_wide.2 (all_any bf c wr))
          have HS := hid hS
          have HJ := hid hJ
          have HST := hid st
          have HDS := hid hds
          have HND := hid hnd
          have HC := hid hc
          clear hS hJ hds hnd hc g2 hrow ho2 hr2 st
          gi_wp2_with (refine ⟨trivial, ?_⟩; gi_at_call 90; refine (C.out _).mono ?_; rintro e w3 ⟨rfl, rfl⟩)
          obtain ⟨wb, hwb⟩ : ∃ wb, (wr.alloc (.cells #[ptr bf] 91)).alloc (.cells #[.int .i64 (c : Int)] 3) = wb := ⟨_, rfl⟩
          have hszb : wb.heap.size = wr.heap.size + 2 := by rw [← hwb]; simp
          have hkb : Keeps (fun _ => False) wr wb := by rw [← hwb]; exact ((Keeps.refl _ _).alloc _).alloc _
          have SB : Seen s F bf bn cap pn n b1 b2 w1.heap.size l wb := HS.out.keeps hkb (fun _ _ e => e) (fun e => e) (fun e => e) (fun e => e)
          have cb1 : wb.cell? ⟨wr.heap.size + 1, 0, none⟩ = some (.int .i64 (c : Int)) := by
            have := cell_of_heap (heap_alloc_new (wr.alloc (.cells #[ptr bf] 91)) (.cells #[.int .i64 (c : Int)] 3)) 0
            rw [hwb, World.size_alloc] at this
            exact this
          have cb2 : wb.cell? ⟨wr.heap.size, 0, none⟩ = some (ptr bf) := by
            have := (Keeps.refl (fun _ => False) (wr.alloc (.cells #[ptr bf] 91))).alloc (.cells #[.int .i64 (c : Int)] 3)
            rw [hwb] at this
            exact this.cell (cell_of_heap (heap_alloc_new wr _) 0) (fun e => e)
          have hOr : ∀ b, O' b → b < wr.heap.size := HST.out.there
          rw [hwb]
          have hxs : (n :: (x.ks.take i).flatMap (allF s k)) ++ allF s k c <+: allF s (k + 1) n := by
            refine ⟨(x.ks.drop (i + 1)).flatMap (allF s k), ?_⟩
            simp only [allF, kidsOf_eq hx, List.cons_append]
            congr 1
            have e1 : x.ks.take i ++ c :: x.ks.drop (i + 1) = x.ks := by
              obtain ⟨hil', hce⟩ := List.getElem?_eq_some_iff.1 HC.out
              rw [← hce, ← List.drop_eq_getElem_cons, List.take_append_drop]
            conv => rhs; rw [← e1]
            simp
          refine range_mine (gf := 138) (lb := #[ptr (wr.heap.size + 1), ptr wr.heap.size]) rfl (enters_of Tryz.func138 (by kernel_rfl) rfl) rfl (O := O') (fun b e => by have := hOr b e; omega)
            (ih c hcl (by omega) wb O' _ _ SB.forest (fun b hb => ⟨by have := (hF b hb).1; omega, qF b hb⟩) cb1 cb2 (fun e => by have := hOr _ e; omega) (fun e => by have := hOr _ e; omega))
            (fun pre O3 W => J ((n :: (x.ks.take i).flatMap (allF s k)) ++ pre) O3 W ∧ Stp O' O3 wb W) (fun pre O3 W => Jx ((n :: (x.ks.take i).flatMap (allF s k)) ++ pre) O3 W ∧ Stp O' O3 wb W) ?mI ?mIx ?h0 
            (fun y => Act.mk #[Value.func (Fn.yield l) #[] #[], ptr b1, ptr b2, Value.pointer (some { block := w1.heap.size, off := 0 }), undef, Value.int IntKind.i64 c, Value.int IntKind.i64 y,
                Value.func (Fn.yield l) #[] #[], Value.int IntKind.i64 n, Value.bool true, Value.bool false, ptr bf,
                Value.pointer (some { block := bf, off := 0 }), Value.pointer (some { block := bf, off := 0 }),
                Value.slice (some { block := bn, off := 0 }) s.length cap, Value.int IntKind.i64 n,
                Value.pointer (some { block := bn, off := n * 4 }),
                Value.pointer (some { block := bn, off := n * 4 + 2 }),
                Value.slice (some { block := g, off := 0 }) x.ks.length sc, Value.int IntKind.i64 x.ks.length,
                Value.int IntKind.i64 i, Value.bool true, Value.pointer (some { block := g, off := i }),
                Value.int IntKind.i64 c, ptr bf, Value.int IntKind.i64 c, Value.func (.func 138) #[] #[ptr (wr.heap.size + 1), ptr wr.heap.size], Value.int IntKind.i64 y, undef, undef, undef, undef, u32] []) ?assign ?body ?done ?stop
          case mI =>
            rintro pre O3 X Y ⟨h1, h2⟩ hk
            exact ⟨mJ _ _ _ _ h1 (hk.mono (fun k _ e => ⟨e.1, by have := e.2; omega⟩)), stp_mine (Nat.le_refl _) h2 hk⟩
          case mIx =>
            rintro pre O3 X Y ⟨h1, h2⟩ hk
            exact ⟨mJx _ _ _ _ h1 (hk.mono (fun k _ e => ⟨e.1, by have := e.2; omega⟩)), stp_mine (Nat.le_refl _) h2 hk⟩
          case h0 => exact ⟨by rw [List.append_nil]; exact mJ _ _ _ _ HJ.out (hkb.mono (fun _ _ e => e.elim)), Stp.refl (fun b e => by have := hOr b e; omega)⟩
          case assign =>
            intro m l' y W K hK
            dsimp only [encN]
            gi_wp2
            exact hK
          case body =>
            rintro m l' pre y O3 W hpre hO3 ⟨hJ3, st3⟩
            have f3 := (SB.keeps st3.keeps qF q1 q2 q3).yield
            obtain ⟨fn2, tmps2, assign2, body2, hy2, hR2⟩ := hY (m - 1) _ y O3 W hJ3 (by rw [List.append_assoc]; exact ((List.prefix_append_right_inj _).2 hpre).trans hxs) hO3
            have HR2 : Hid (RoundIn (Fence.wide.inRound l') _ _ _ _ _ _ _ _ _) := hid hR2
            have ST3 := hid st3
            dsimp only [encN] at hy2
            have hdd : ∀ k : Nat, ((Fence.wide.inRound l').depth.isSome = true → 1 ≤ k) := fun k h => by simp [Fence.wide] at h
            clear hR2 hJ3 st3 hxs SB cb1 cb2 HJ HS HDS HND HST C S3 JJ ST RO RH
            gi_wp2_with ((try refine ⟨hdd _, ?_⟩); refine HR2.out.mono ?_; clear HR2; rintro e W4 ⟨O4, st4, (⟨rfl, hJ4⟩ | ⟨rfl, hX4⟩)⟩)
            · exact ⟨O4, st4, by rw [← List.append_assoc]; exact hJ4, ST3.out.trans st4⟩
            · exact ⟨O4, st4, by rw [← List.append_assoc]; exact hX4, ST3.out.trans st4⟩
          case done =>
            rintro O5 W st5 hn5 ⟨hJ5, _⟩ hD5
            have hk5 := st5.keeps
            have S5 := SB.keeps hk5 qF q1 q2 q3
            have stb : Stp O' O' wr wb := by rw [← hwb]; exact (Stp.alloc hOr _).trans (Stp.alloc (fun b e => by have := hOr b e; simp; omega) _)
            have HFIN := hid (And.intro hJ5 (And.intro st5 (And.intro hn5 (And.intro hD5 S5))))
            clear hJ5 st5 hn5 hD5 S5 hk5 SB cb1 cb2
            gi_wp2
            obtain ⟨hJ5, st5, hn5, hD5, S5⟩ := HFIN.out
            refine ⟨⟨i + 1, wb.heap.size :: ds, O5, _, _, _, _, _, _, _, _, hil, rfl, HST.out.trans (stb.trans st5), ?_, S5, ?_, ?_⟩, ?_⟩
            · rw [List.take_add_one, HC.out]
              simpa using hJ5
            · refine List.nodup_cons.2 ⟨fun hm => ?_, HND.out⟩
              have := heap_lt (HDS.out _ hm).2
              omega
            · intro D hm
              rcases List.mem_cons.1 hm with rfl | hm
              · exact ⟨⟨by omega, hn5⟩, hD5⟩
              · obtain ⟨⟨d1, d2⟩, d3⟩ := HDS.out D hm
                have hdl := heap_lt d3
                refine ⟨⟨d1, fun e => (st5.gains D e).elim d2 (fun e => by omega)⟩, ?_⟩
                rw [st5.keeps.block D (by omega) d2, hkb.block D hdl (fun e => e)]
                exact d3
            · show x.ks.length - ((i : Int) + 1).toNat < x.ks.length - ((i : Int)).toNat
              omega
          case stop =>
            rintro O5 pre W hpre st5 hn5 ⟨hX5, _⟩ hD5
            have stb : Stp O' O' wr wb := by rw [← hwb]; exact (Stp.alloc hOr _).trans (Stp.alloc (fun b e => by have := hOr b e; simp; omega) _)
            gi_wp2
            have hds : ∀ D ∈ wb.heap.size :: ds, (w1.heap.size ≤ D ∧ ¬ O5 D) ∧ W.heap[D]? = some (.deferred (some [])) := by
              intro D hm
              rcases List.mem_cons.1 hm with rfl | hm
              · exact ⟨⟨by omega, hn5⟩, hD5⟩
              · obtain ⟨⟨d1, d2⟩, d3⟩ := HDS.out D hm
                have hdl := heap_lt d3
                refine ⟨⟨by omega, fun e => (st5.gains D e).elim d2 (fun e => by omega)⟩, ?_⟩
                rw [st5.keeps.block D (by omega) d2, hkb.block D hdl (fun e => e)]
                exact d3
            have stA := (Stp.alloc hlt (.cells #[.func (.yield l) #[] #[]] 83)).trans (HST.out.trans (stb.trans st5))
            refine leaves_marks (wb.heap.size :: ds) _ (List.nodup_cons.2 ⟨fun hm => ?_, HND.out⟩) (fun D hm => (hds D hm).2) (fun w' hk => ⟨_, results_none rfl _ _ _, ⟨_, rfl⟩, O5, (left_ok stA (fun D hm => (hds D hm).1) hk).1, .inr ⟨_, ?_, mJx _ _ _ _ hX5 (left_ok stA (fun D hm => (hds D hm).1) hk).2⟩⟩)
            · have := heap_lt (HDS.out _ hm).2
              omega
            · exact ((List.prefix_append_right_inj _).2 hpre).trans hxs
        · obtain rfl : i = x.ks.length := by omega
          have hilI : ¬ (x.ks.length : Int) < x.ks.length := by omega
          have HJ := hid hJ
          have HST := hid st
          have HDS := hid hds
          have HND := hid hnd
          clear hJ st hds hnd hS
          gi_wp2
          have stA := (Stp.alloc hlt (.cells #[.func (.yield l) #[] #[]] 83)).trans HST.out
          have hds2 : ∀ D ∈ ds, w1.heap.size ≤ D ∧ ¬ O' D := fun D hm => ⟨by have := (HDS.out D hm).1.1; omega, (HDS.out D hm).1.2⟩
          refine leaves_marks ds _ HND.out (fun D hm => (HDS.out D hm).2) (fun w' hk => ⟨_, results_none rfl _ _ _, ⟨_, rfl⟩, O', (left_ok stA hds2 hk).1, .inl ?_⟩)
          have := mJ _ _ _ _ HJ.out (left_ok stA hds2 hk).2
          rw [List.take_of_length_le (Nat.le_refl _)] at this
          rw [allF, kidsOf_eq hx]
          exact this
    · gi_wp2
      refine leaves_marks [] _ (by simp) (by simp) (fun w' hk => ⟨_, results_none rfl _ _ _, ⟨_, rfl⟩, O2, ?_, .inr ⟨[n], ⟨(kidsOf s n).flatMap (allF s k), rfl⟩, ?_⟩⟩)
      · exact (left_ok ((Stp.alloc hlt _).trans st2) (ds := []) (by simp) hk).1
      · exact mJx _ _ _ _ hX2 (left_ok ((Stp.alloc hlt _).trans st2) (ds := []) (by simp) hk).2
end Go.Proofs.YtabogkonklplcaaGreatDoor

namespace Go.Proofs.YtabogkonklplcaaGreatDoor
open Go.RowKit Go.Shelf
set_option linter.unusedSimpArgs false
set_option linter.unusedVariables false
attribute [local go_sem] Oper.semAt_some
set_option maxRecDepth 20000 in
set_option maxHeartbeats 4000000 in
theorem holds_any {s : List Nd} (wf : WF s) {h : Nat → Nat} {B : Nat} (u : Up s h B) {F : Nat → Prop} {bf bn cap : Nat} {pn : List PN} {w : World} (hD : PForAt w F bf bn cap pn s) (k n o : Nat) (hn : n < s.length) (hk : h n < k) :
    Calls Tryz.prog 173 #[ptr bf, .int .i64 n, .int .i64 o] w fun e w' => e = .returned (.bool (decide (o ∈ allF s k n))) ∧ Below w.heap.size w w' := by
  have HD := hid hD.narrow
  clear hD
  refine callsIn_wide.1 (callsIn_of_wp_marks (F := Fence.wide) (n := 1) Tryz.func173 rfl trivial ?_ rfl)
  simp only [Tryz.ntmps173, List.size_toArray, List.length_cons, List.length_nil, Nat.reduceAdd, Nat.reduceSub, Array.replicate_succ, Array.replicate_zero, List.push_toArray, List.append_toArray, List.nil_append, List.cons_append]
  have C : Hid (∀ (m : Nat) (W : World), CallsIn Fence.wide m _ _ _ _ _) := hid (fun m W => callsIn_wide.2 (all_any bf n W))
  gi_wp2_with (refine ⟨trivial, ?_⟩; gi_at_call 90; refine (C.out _ _).mono ?_; rintro e w3 ⟨rfl, rfl⟩)
  obtain ⟨wb, hwb⟩ : ∃ wb, (((w.alloc (.cells #[.int .i64 (o : Int)] 3)).alloc (.cells #[.bool false] 4)).alloc (.cells #[ptr bf] 91)).alloc (.cells #[.int .i64 (n : Int)] 3) = wb := ⟨_, rfl⟩
  have hszb : wb.heap.size = w.heap.size + 4 := by rw [← hwb]; simp
  have hbb : Below w.heap.size w wb := by rw [← hwb]; exact ((((Below.refl _ w).alloc (Nat.le_refl _) _).alloc (by simp) _).alloc (by simp; omega) _).alloc (by simp; omega) _
  have x0 : wb.heap[w.heap.size]? = some (.cells #[.int .i64 (o : Int)] 3 (0, 0)) := by
    rw [← hwb, Below.heap_alloc _ _ _ (by simp; omega), Below.heap_alloc _ _ _ (by simp; omega), Below.heap_alloc _ _ _ (by simp)]
    exact heap_alloc_new w _
  have x1 : wb.heap[w.heap.size + 1]? = some (.cells #[.bool false] 4 (0, 0)) := by
    rw [← hwb, Below.heap_alloc _ _ _ (by simp), Below.heap_alloc _ _ _ (by simp)]
    have := heap_alloc_new (w.alloc (.cells #[.int .i64 (o : Int)] 3)) (.cells #[.bool false] 4)
    rwa [World.size_alloc] at this
  have x2 : wb.heap[w.heap.size + 2]? = some (.cells #[ptr bf] 91 (0, 0)) := by
    rw [← hwb, Below.heap_alloc _ _ _ (by simp)]
    have := heap_alloc_new ((w.alloc (.cells #[.int .i64 (o : Int)] 3)).alloc (.cells #[.bool false] 4)) (.cells #[ptr bf] 91)
    rwa [World.size_alloc, World.size_alloc] at this
  have x3 : wb.heap[w.heap.size + 3]? = some (.cells #[.int .i64 (n : Int)] 3 (0, 0)) := by
    rw [← hwb]
    have := heap_alloc_new (((w.alloc (.cells #[.int .i64 (o : Int)] 3)).alloc (.cells #[.bool false] 4)).alloc (.cells #[ptr bf] 91)) (.cells #[.int .i64 (n : Int)] 3)
    rwa [World.size_alloc, World.size_alloc, World.size_alloc] at this
  rw [hwb]
  refine range_mine (gf := 138) (lb := #[ptr (w.heap.size + 3), ptr (w.heap.size + 2)]) rfl (enters_of Tryz.func138 (by kernel_rfl) rfl) rfl (O := fun b => b = w.heap.size + 1) (fun b e => by omega)
    (all1_ok wf u k n hn hk wb _ _ _ (HD.out.below hbb) (fun b hb => ⟨by have := hb.2; omega, by have := hb.2; omega⟩) (cell_of_heap x3 0) (cell_of_heap x2 0) (by omega) (by omega))
    (fun pre O3 W => O3 = (fun b => b = w.heap.size + 1) ∧ o ∉ pre ∧ W.heap[w.heap.size + 1]? = some (.cells #[.bool false] 4 (0, 0)) ∧ Stp (fun b => b = w.heap.size + 1) O3 wb W)
    (fun pre O3 W => O3 = (fun b => b = w.heap.size + 1) ∧ o ∈ pre ∧ W.heap[w.heap.size + 1]? = some (.cells #[.bool true] 4 (0, 0)) ∧ Stp (fun b => b = w.heap.size + 1) O3 wb W) ?mI ?mIx ?h0
    (fun y => Act.mk #[ptr bf, Value.int IntKind.i64 n, Value.int IntKind.i64 o, undef, undef,
          Value.pointer (some { block := w.heap.size, off := 0 }),
          Value.pointer (some { block := w.heap.size + 1, off := 0 }), Value.int IntKind.i64 y, ptr bf, Value.int IntKind.i64 n,
          Value.func (Fn.func 138) #[] #[ptr (w.heap.size + 1 + 1 + 1), ptr (w.heap.size + 1 + 1)], Value.int IntKind.i64 y, undef, undef,
          undef] []) ?assign ?body ?done ?stop
  case mI =>
    rintro pre O3 X Y ⟨rfl, h1, h2, h3⟩ hk
    exact ⟨rfl, h1, by rw [hk.block _ (heap_lt h2) (fun e => e.1 rfl)]; exact h2, stp_mine (Nat.le_refl _) h3 hk⟩
  case mIx =>
    rintro pre O3 X Y ⟨rfl, h1, h2, h3⟩ hk
    exact ⟨rfl, h1, by rw [hk.block _ (heap_lt h2) (fun e => e.1 rfl)]; exact h2, stp_mine (Nat.le_refl _) h3 hk⟩
  case h0 => exact ⟨rfl, by simp, x1, Stp.refl (fun b e => by omega)⟩
  case assign =>
    intro m l' y W K hK
    dsimp only [encN]
    gi_wp2
    exact hK
  case body =>
    rintro m l' pre y O3 W hpre hO3 ⟨rfl, h1, h2, h3⟩
    have f0 : W.cell? ⟨w.heap.size, 0, none⟩ = some (.int .i64 (o : Int)) := h3.keeps.cell (cell_of_heap x0 0) (by simp)
    have f1 : W.cell? ⟨w.heap.size + 1, 0, none⟩ = some (.bool false) := cell_of_heap h2 0
    have f2 := frozen_of_heap h2 0
    have H3 := hid h3
    have H2 := hid h2
    have H1 := hid h1
    clear h3 h2 h1 x0 x1 x2 x3 hpre
    by_cases hyo : y = o
    · subst hyo
      gi_wp2
      have hs : Stp (fun b => b = w.heap.size + 1) (fun b => b = w.heap.size + 1) W (W.setCell ⟨w.heap.size + 1, 0, none⟩ (.bool true)) :=
        ⟨(Keeps.refl (fun b => b = w.heap.size + 1) W).setCell (p := ⟨w.heap.size + 1, 0, none⟩) (.inl rfl) _, fun b e => .inl e, fun b e => by have := hO3 b e; simpa [World.setCell] using this⟩
      exact ⟨_, hs, rfl, by simp, by rw [heap_setCell_same W _ 0 _ _ _ H2.out]; rfl, H3.out.trans hs⟩
    · have hyI : ((y : Int) == (o : Int)) = false := by simp; omega
      have hyJ : ¬ (y : Int) = (o : Int) := by omega
      gi_wp2
      exact ⟨_, Stp.refl hO3, rfl, by simp [H1.out]; omega, H2.out, H3.out⟩
  case done =>
    rintro O5 W st5 hn5 ⟨rfl, h1, h2, h3⟩ hD5
    have f1 : W.cell? ⟨w.heap.size + 1, 0, none⟩ = some (.bool false) := cell_of_heap h2 0
    have f2 := frozen_of_heap h2 0
    have H5 := hid (And.intro st5 (And.intro h1 (And.intro h2 hD5)))
    clear st5 hn5 h1 h2 h3 hD5 x0 x1 x2 x3
    gi_wp2
    obtain ⟨st5, h1, h2, hD5⟩ := H5.out
    refine leaves_marks [wb.heap.size] _ (by simp) (fun D hm => ?_) (fun w' hk' => ⟨.bool false, ?_, ?_, ?_⟩)
    · obtain rfl : D = wb.heap.size := by simpa using hm
      rw [Below.heap_setCell _ _ _ _ (by simp; omega)]
      exact hD5
    · have hh := heap_setCell_same W _ 0 _ _ (.bool false) h2
      have hc : w'.cell? ⟨w.heap.size + 1, 0, none⟩ = some (.bool false) := hk'.cell (cell_of_heap hh 0) (by simp; omega)
      simp [results, Tryz.f173, go_sem, hc]
    · rw [decide_eq_false h1]
    · have k1 : Keeps (fun _ => False) w wb := Keeps.of_below hbb
      have k2 : Keeps (fun _ => False) w W := k1.trans (st5.keeps.mono (fun b _ e => .inr (by omega)))
      exact ((k2.setCell (p := ⟨w.heap.size + 1, 0, none⟩) (.inr (by simp)) _).trans (hk'.mono (fun b _ e => .inr (by simp at e; omega)))).below
  case stop =>
    rintro O5 pre W hpre st5 hn5 ⟨rfl, h1, h2, h3⟩ hD5
    have H5 := hid (And.intro st5 (And.intro h1 (And.intro h2 (And.intro hD5 hpre))))
    clear st5 hn5 h1 h2 h3 hD5 x0 x1 x2 x3 hpre
    gi_wp2
    obtain ⟨st5, h1, h2, hD5, hpre⟩ := H5.out
    refine leaves_marks [wb.heap.size] _ (by simp) (fun D hm => ?_) (fun w' hk' => ⟨.bool true, ?_, ?_, ?_⟩)
    · obtain rfl : D = wb.heap.size := by simpa using hm
      exact hD5
    · have hc : w'.cell? ⟨w.heap.size + 1, 0, none⟩ = some (.bool true) := hk'.cell (cell_of_heap h2 0) (by simp; omega)
      simp [results, Tryz.f173, go_sem, hc]
    · rw [decide_eq_true (hpre.subset h1)]
    · have k1 : Keeps (fun _ => False) w wb := Keeps.of_below hbb
      have k2 : Keeps (fun _ => False) w W := k1.trans (st5.keeps.mono (fun b _ e => .inr (by omega)))
      exact (k2.trans (hk'.mono (fun b _ e => .inr (by simp at e; omega)))).below
end Go.Proofs.YtabogkonklplcaaGreatDoor

namespace Go.Proofs.YtabogkonklplcaaGreatDoor
open Go.RowKit Go.Shelf
set_option linter.unusedSimpArgs false
set_option linter.unusedVariables false
attribute [local go_sem] Oper.semAt_some
theorem slice_form {w : World} {e : TypeId} {z n : Nat} {v : Value} {xs : List Value} (h : w.ownsRow 0 e z v n xs) : ∃ a c, v = .slice a n c := by
  rcases row_cases h with ⟨e1, e2⟩ | ⟨g, c, e1⟩
  · exact ⟨none, 0, by rw [e1, e2]⟩
  · exact ⟨_, _, e1⟩
theorem Tryz.infoInt : (Tryz.prog.info? 3).map (fun i => (i.zero, i.size, i.bytes)) = some (some (.int .i64 0), 1, 8) := by kernel_rfl
set_option maxRecDepth 20000 in
set_option maxHeartbeats 2000000 in
theorem appendSeq_any {gf : Nat} {lb : Array Value} (eg : ∀ args w, (callFunc gf args).run Tryz.prog w = .ok (.enter gf args) w) {xs : List Nat} (hlen : xs.length < lots) {w : World}
    (hseq : ∀ (w1 : World) (O : Nat → Prop), Below w.heap.size w w1 → (∀ k, O k → w.heap.size ≤ k) → SeqOk Tryz.prog gf lb xs w1 O) :
    Calls Tryz.prog 137 #[.slice none 0 0, .func (.func gf) #[] lb] w fun e w' => ∃ v, e = .returned v ∧ w'.ownsRow 0 3 1 v xs.length (intsV xs) ∧ Below w.heap.size w w' ∧ (∀ b, v.ownBlock = some b → w.heap.size ≤ b) := by
  obtain ⟨i0, hi, hz0, hz1, hz2⟩ := info_parts Tryz.infoInt
  refine callsIn_wide.1 (callsIn_of_wp_marks (F := Fence.wide) (n := 1) Tryz.func137 rfl trivial ?_ rfl)
  simp only [Tryz.ntmps137, List.size_toArray, List.length_cons, List.length_nil, Nat.reduceAdd, Nat.reduceSub, Array.replicate_succ, Array.replicate_zero, List.push_toArray, List.append_toArray, List.nil_append, List.cons_append]
  gi_wp2
  obtain ⟨wb, hwb⟩ : ∃ wb, w.alloc (.cells #[.slice none 0 0] 24) = wb := ⟨_, rfl⟩
  have hszb : wb.heap.size = w.heap.size + 1 := by rw [← hwb]; simp
  have hbb : Below w.heap.size w wb := by rw [← hwb]; exact (Below.refl _ w).alloc (Nat.le_refl _) _
  have x0 : wb.heap[w.heap.size]? = some (.cells #[.slice none 0 0] 24 (0, 0)) := by rw [← hwb]; exact heap_alloc_new w _
  have hl2 : xs.length < 2000000 := by unfold lots at hlen; exact hlen
  rw [hwb]
  refine range_mine (gf := gf) (lb := lb) rfl eg rfl (O := fun b => b = w.heap.size) (fun b e => by omega) (hseq wb _ hbb (fun k e => by omega))
    (fun pre O3 W => ∃ v, O3 = (fun b => b = w.heap.size ∨ v.ownBlock = some b) ∧ W.heap[w.heap.size]? = some (.cells #[v] 24 (0, 0)) ∧ W.ownsRow 0 3 1 v pre.length (intsV pre) ∧ v.ownBlock ≠ some w.heap.size ∧ Stp (fun b => b = w.heap.size) O3 wb W)
    (fun _ _ _ => False) ?mI ?mIx ?h0
    (fun y => Act.mk #[Value.slice none 0 0, Value.func (Fn.func gf) #[] lb, Value.pointer (some { block := w.heap.size, off := 0 }),
          undef, Value.slice none 0 0, Value.int IntKind.i64 y, Value.func (Fn.func gf) #[] lb, Value.int IntKind.i64 y, undef, undef, undef, undef, undef] []) ?assign ?body ?done ?stop
  case mI =>
    rintro pre O3 X Y ⟨v, rfl, h2, h3, h4, h5⟩ hk
    exact ⟨v, rfl, by rw [hk.block _ (heap_lt h2) (fun e => e.1 (.inl rfl))]; exact h2, hk.row h3 (fun b e e2 => e2.1 (.inr e)), h4, stp_mine (Nat.le_refl _) h5 hk⟩
  case mIx => intro pre O3 X Y h _; exact h
  case h0 =>
    refine ⟨.slice none 0 0, ?_, x0, World.ownsRow_nil _ _ _ _, by simp [Value.ownBlock], ?_⟩
    · funext b; simp [Value.ownBlock]
    · exact Stp.refl (fun b e => by omega)
  case assign =>
    intro m l' y W K hK
    dsimp only [encN]
    gi_wp2
    exact hK
  case body =>
    rintro m l' pre y O3 W hpre hO3 ⟨v, rfl, h2, h3, h4, h5⟩
    have hpl : pre.length + 1 ≤ xs.length := by have := hpre.length_le; simpa using this
    have f1 : W.cell? ⟨w.heap.size, 0, none⟩ = some v := cell_of_heap h2 0
    have hlW : w.heap.size < W.heap.size := heap_lt h2
    have H2 := hid h2
    have H3 := hid h3
    have H4 := hid h4
    have H5 := hid h5
    have HO := hid hO3
    clear h2 h3 h4 h5 hO3 hpre x0
    gi_wp2_with (gi_at_builtin; refine wpListIn_append_own_at _ rfl _ _ 24 rfl 0 3 i0 (.int .i64 0) 1 8 Tryz.underlying24 hi hz0 hz1 hz2 rfl (by decide) v _ _ rfl (H3.out.alloc _) ⟨W.heap.size, 0, none⟩ 1 1 [.int .i64 (y : Int)] rfl rfl (cell_one_new _ _ _) (by simp [Value.oneCell']) (by unfold maxLen; omega) (by omega) (Nat.zero_le _) ?_
                 intro v' w1 hown' hgrow _ hob
                 obtain ⟨g', cap', rfl⟩ := ownsRow_succ hown'
                 have hq1 := (hgrow.block w.heap.size (by simp only [World.size_alloc]; omega) (fun e => H4.out e.symm)).trans ((Below.heap_alloc _ _ _ hlW).trans H2.out)
                 have hc1 : w1.cell? ⟨w.heap.size, 0, none⟩ = some v := cell_of_heap hq1 0
                 have hf1 := frozen_of_heap hq1 0
                 have HQ := hid hq1
                 have HW := hid hown'
                 have HG := hid hgrow
                 have HB := hid hob
                 clear hown' hgrow hob hq1)
    have hgb : v.ownBlock = some g' ∨ g' = W.heap.size + 1 := by
      rcases HB.out with e | e
      · left; rw [← e]; rfl
      · right; simpa [Value.ownBlock] using e
    have hg' : g' ≠ w.heap.size := by
      rcases hgb with e | e
      · rintro rfl; exact H4.out e
      · omega
    have hs : Stp (fun b => b = w.heap.size ∨ v.ownBlock = some b) (fun b => b = w.heap.size ∨ (Value.slice (some ⟨g', 0, none⟩) (pre.length + 1) cap').ownBlock = some b) W (w1.setCell ⟨w.heap.size, 0, none⟩ (.slice (some ⟨g', 0, none⟩) (pre.length + 1) cap')) := by
      refine ⟨?_, ?_, ?_⟩
      · exact (((Keeps.refl (fun b => b = w.heap.size ∨ v.ownBlock = some b) W).alloc _).trans (Keeps.grown HG.out (fun k e => .inl (.inl (.inr e))))).setCell (p := ⟨w.heap.size, 0, none⟩) (.inl (.inl rfl)) _
      · rintro b (e | e)
        · exact .inl (.inl e)
        · have e' : g' = b := by simpa [Value.ownBlock] using e
          subst e'
          rcases hgb with e | e
          · exact .inl (.inr e)
          · exact .inr (by omega)
      · have hz : (w1.setCell ⟨w.heap.size, 0, none⟩ (.slice (some ⟨g', 0, none⟩) (pre.length + 1) cap')).heap.size = w1.heap.size := by simp
        rintro b (e | e)
        · rw [hz, e]; exact heap_lt HQ.out
        · have e' : g' = b := by simpa [Value.ownBlock] using e
          subst e'
          rw [hz]
          exact (HW.out.lt g' rfl).2
    refine ⟨_, hs, _, rfl, by rw [heap_setCell_same w1 _ 0 _ _ _ HQ.out]; rfl, ?_, by simpa [Value.ownBlock] using hg', H5.out.trans hs⟩
    rw [List.length_append]
    have := row_setCell_other HW.out (p := ⟨w.heap.size, 0, none⟩) (by simpa [Value.ownBlock] using hg') (.slice (some ⟨g', 0, none⟩) (pre.length + 1) cap')
    simpa [intsV] using this
  case done =>
    rintro O5 W st5 hn5 ⟨v, rfl, h2, h3, h4, h5⟩ hD5
    obtain ⟨sa, sc, hkv⟩ : ∃ a c, v = .slice a xs.length c := by
      rcases row_cases h3 with ⟨e1, e2⟩ | ⟨g, c, e1⟩
      · exact ⟨none, 0, by rw [e1, e2]⟩
      · exact ⟨_, _, e1⟩
    subst hkv
    have f1 : W.cell? ⟨w.heap.size, 0, none⟩ = some (.slice sa xs.length sc) := cell_of_heap h2 0
    have H := hid (And.intro st5 (And.intro hn5 (And.intro h3 (And.intro h4 hD5))))
    have HZ := hid hszb
    clear st5 hn5 h2 h3 h4 h5 hD5 x0 hszb
    gi_wp2
    obtain ⟨st5, hn5, h3, h4, hD5⟩ := H.out
    have hszb := HZ.out
    refine leaves_marks [wb.heap.size] _ (by simp) (fun D hm => ?_) (fun w' hk' => ⟨.slice sa xs.length sc, ?_, _, rfl, ?_, ?_, ?_⟩)
    · obtain rfl : D = wb.heap.size := by simpa using hm
      exact hD5
    · exact results_tmp (fn := Tryz.f137) (t := 4) rfl _ _ _
    · refine hk'.row h3 (fun b e e2 => ?_)
      have : b = wb.heap.size := by simpa using e2
      subst this
      exact hn5 (.inr e)
    · have k1 : Keeps (fun _ => False) w wb := Keeps.of_below hbb
      have k2 : Keeps (fun _ => False) w W := k1.trans (st5.keeps.mono (fun b _ e => .inr (by omega)))
      exact (k2.trans (hk'.mono (fun b _ e => .inr (by simp at e; omega)))).below
    · intro b e
      rcases st5.gains b (.inr e) with e1 | e1
      · omega
      · omega
  case stop =>
    rintro O5 pre W hpre st5 hn5 h hD5
    exact h.elim
set_option maxHeartbeats 400000 in
theorem collect_any {gf : Nat} {lb : Array Value} (eg : ∀ args w, (callFunc gf args).run Tryz.prog w = .ok (.enter gf args) w) {xs : List Nat} (hlen : xs.length < lots) {w : World}
    (hseq : ∀ (w1 : World) (O : Nat → Prop), Below w.heap.size w w1 → (∀ k, O k → w.heap.size ≤ k) → SeqOk Tryz.prog gf lb xs w1 O) :
    Calls Tryz.prog 89 #[.func (.func gf) #[] lb] w fun e w' => ∃ a c, e = .returned (.slice a xs.length c) ∧ w'.ownsRow 0 3 1 (.slice a xs.length c) xs.length (intsV xs) ∧ Below w.heap.size w w' ∧ (∀ b, (Value.slice a xs.length c).ownBlock = some b → w.heap.size ≤ b) := by
  have C := hid (appendSeq_any eg hlen hseq)
  clear hseq eg
  go_enter Tryz.func89, Tryz.ntmps89
  go_wp2_with (go_at_call 137; refine C.out.mono ?_; rintro e w1 ⟨v, rfl, h1, h2, h3⟩; obtain ⟨sa, sc, rfl⟩ := slice_form h1)
  go_ret
  exact ⟨_, _, rfl, h1, h2, h3⟩
end Go.Proofs.YtabogkonklplcaaGreatDoor

namespace Go.Proofs.YtabogkonklplcaaGreatDoor
set_option linter.unusedSimpArgs false
set_option linter.unusedVariables false
abbrev Mvf : Type := Int → Int → Int × Int
def shiftF (n o d : Int) : Mvf := fun a b => if a = n ∧ o < b then (a, b + d) else (a, b)
def gatherF (l : List Nat) (p q : Int) (g : Mvf) : Mvf := fun a b => if (l.map Int.ofNat).contains a then (p, q) else g a b
def resizeF (n o t g : Int) : Mvf := fun a b => if a = n ∧ o < b ∧ b ≤ o + t then (n, o) else shiftF n (o + t) (g - t) a b
def carryF (n o fr : Int) (g : Mvf) : Mvf := fun a b => if a = n ∧ o < b then (fr, b - o) else g a b
def mvSp (f : Mvf) (x : Sp) : Sp := ⟨(f x.a x.b).1, (f x.a x.b).2, (f x.c x.d).1, (f x.c x.d).2⟩
def PlOk (s : List Nd) (a b : Int) : Prop := ∃ n k : Nat, a = (n : Int) ∧ b = (k : Int) ∧ n < s.length ∧ k ≤ sizeAt s n
def SpOk (s : List Nd) (x : Sp) : Prop := PlOk s x.a x.b ∧ PlOk s x.c x.d
theorem sizeAt_set {s : List Nd} {i : Nat} (hi : i < s.length) (x : Nd) (n : Nat) : sizeAt (s.set i x) n = if n = i then sizeN x else sizeAt s n := by
  unfold sizeAt
  by_cases h : n = i
  · subst h
    simp [hi]
  · rw [List.getElem?_set_ne (fun e => h e.symm), if_neg h]
theorem sizeAt_push {s : List Nd} (x : Nd) {n : Nat} (hn : n < s.length) : sizeAt (s ++ [x]) n = sizeAt s n := by
  unfold sizeAt
  rw [List.getElem?_append_left hn]
theorem PlOk.push {s : List Nd} {a b : Int} (h : PlOk s a b) (x : Nd) : PlOk (s ++ [x]) a b := by
  obtain ⟨n, k, rfl, rfl, hn, hk⟩ := h
  exact ⟨n, k, rfl, rfl, by simp; omega, by rw [sizeAt_push x hn]; exact hk⟩
theorem PlOk.insert {s : List Nd} {i j k : Nat} {x y : Nd} (hx : s[i]? = some x) (hy : s[j]? = some y) (hij : i ≠ j) (ht : x.t = false) (hk : k ≤ x.ks.length) {a b : Int} (h : PlOk s a b) :
    PlOk ((s.set i { x with ks := x.ks.take k ++ j :: x.ks.drop k }).set j { y with p := i }) (shiftF i k 1 a b).1 (shiftF i k 1 a b).2 := by
  obtain ⟨n, m, rfl, rfl, hn, hm⟩ := h
  have hi : i < s.length := (List.getElem?_eq_some_iff.1 hx).1
  have hj : j < s.length := (List.getElem?_eq_some_iff.1 hy).1
  have hsz : sizeAt ((s.set i { x with ks := x.ks.take k ++ j :: x.ks.drop k }).set j { y with p := i }) n = if n = i then sizeAt s n + 1 else sizeAt s n := by
    rw [sizeAt_set (by simpa using hj), sizeAt_set hi]
    by_cases h1 : n = j
    · subst h1
      rw [if_pos rfl, if_neg (fun e => hij e.symm), sizeAt_eq hy]
      rfl
    · rw [if_neg h1]
      by_cases h2 : n = i
      · subst h2
        rw [if_pos rfl, if_pos rfl, sizeAt_eq hx, sizeN_elem ht, sizeN_elem (x := { x with ks := x.ks.take k ++ j :: x.ks.drop k }) ht]
        simp; omega
      · rw [if_neg h2, if_neg h2]
  unfold shiftF
  by_cases hc : (n : Int) = (i : Int) ∧ (k : Int) < (m : Int)
  · rw [if_pos hc]
    refine ⟨n, m + 1, rfl, by simp, by simpa using hn, ?_⟩
    rw [hsz, if_pos (by omega)]; omega
  · rw [if_neg hc]
    refine ⟨n, m, rfl, rfl, by simpa using hn, ?_⟩
    rw [hsz]; split <;> omega
theorem PlOk.remove {s : List Nd} {i j m : Nat} {x y : Nd} (hx : s[i]? = some x) (hy : s[j]? = some y) (hij : i ≠ j) (ht : y.t = false) (hm : m < y.ks.length) (l : List Nat) (hjl : j ∉ l) {a b : Int} (h : PlOk s a b) :
    PlOk ((s.set j { y with ks := y.ks.take m ++ y.ks.drop (m + 1) }).set i { x with p := -1 }) (gatherF l j m (shiftF j m (-1)) a b).1 (gatherF l j m (shiftF j m (-1)) a b).2 := by
  obtain ⟨n, o, rfl, rfl, hn, ho⟩ := h
  have hi : i < s.length := (List.getElem?_eq_some_iff.1 hx).1
  have hj : j < s.length := (List.getElem?_eq_some_iff.1 hy).1
  have hsz : ∀ n, sizeAt ((s.set j { y with ks := y.ks.take m ++ y.ks.drop (m + 1) }).set i { x with p := -1 }) n = if n = j then sizeAt s n - 1 else sizeAt s n := by
    intro n
    rw [sizeAt_set (by simpa using hi), sizeAt_set hj]
    by_cases h1 : n = i
    · subst h1
      rw [if_pos rfl, if_neg hij, sizeAt_eq hx]
      rfl
    · rw [if_neg h1]
      by_cases h2 : n = j
      · subst h2
        rw [if_pos rfl, if_pos rfl, sizeAt_eq hy, sizeN_elem ht, sizeN_elem (x := { y with ks := y.ks.take m ++ y.ks.drop (m + 1) }) ht]
        simp; omega
      · rw [if_neg h2, if_neg h2]
  have hsj : sizeAt s j = y.ks.length := by rw [sizeAt_eq hy, sizeN_elem ht]
  unfold gatherF
  split
  · exact ⟨j, m, rfl, rfl, by simpa using hj, by rw [hsz, if_pos rfl, hsj]; omega⟩
  · unfold shiftF
    by_cases hc : (n : Int) = (j : Int) ∧ (m : Int) < (o : Int)
    · rw [if_pos hc]
      obtain rfl : n = j := by omega
      exact ⟨n, o - 1, rfl, by show (o : Int) + -1 = _; omega, by simpa using hn, by rw [hsz, if_pos rfl]; omega⟩
    · rw [if_neg hc]
      refine ⟨n, o, rfl, rfl, by simpa using hn, ?_⟩
      rw [hsz]
      split
      · rename_i e
        subst e
        omega
      · exact ho
theorem PlOk.replace {s : List Nd} {i o c : Nat} {x : Nd} {cs : List ByteArray} {g : Nat} (hx : s[i]? = some x) (ht : x.t = true) (hc : o + c ≤ x.cs.length) (hcs : cs.length = x.cs.length - c + g) {a b : Int} (h : PlOk s a b) :
    PlOk (s.set i { x with cs := cs }) (resizeF i o c g a b).1 (resizeF i o c g a b).2 := by
  obtain ⟨n, m, rfl, rfl, hn, hm⟩ := h
  have hi : i < s.length := (List.getElem?_eq_some_iff.1 hx).1
  have hsi : sizeAt s i = x.cs.length := by rw [sizeAt_eq hx, sizeN_text ht]
  have hsz : ∀ n, sizeAt (s.set i { x with cs := cs }) n = if n = i then cs.length else sizeAt s n := by
    intro n
    rw [sizeAt_set hi, sizeN_text (x := { x with cs := cs }) ht]
  unfold resizeF
  split
  · exact ⟨i, o, rfl, rfl, by simpa using hi, by rw [hsz, if_pos rfl]; omega⟩
  · rename_i h1
    unfold shiftF
    split
    · rename_i h2
      obtain rfl : n = i := by omega
      exact ⟨n, m - c + g, rfl, by show (m : Int) + _ = _; omega, by simpa using hn, by rw [hsz, if_pos rfl]; omega⟩
    · rename_i h2
      refine ⟨n, m, rfl, rfl, by simpa using hn, ?_⟩
      rw [hsz]
      split
      · rename_i e
        subst e
        have : m ≤ o := by
          rcases Nat.lt_or_ge o m with h | h
          · exfalso
            have h3 : ¬ ((m : Int) ≤ (o : Int) + (c : Int)) := fun h4 => h1 ⟨rfl, by omega, h4⟩
            exact h2 ⟨rfl, by omega⟩
          · exact h
        omega
      · exact hm
theorem SpOk.mv {s s' : List Nd} {f : Mvf} (hf : ∀ a b : Int, PlOk s a b → PlOk s' (f a b).1 (f a b).2) {x : Sp} (h : SpOk s x) : SpOk s' (mvSp f x) := ⟨hf _ _ h.1, hf _ _ h.2⟩
theorem PlOk.small {s : List Nd} (wf : WF s) {a b : Int} (h : PlOk s a b) : 0 ≤ b ∧ b ≤ 40 := by
  obtain ⟨n, k, rfl, rfl, hn, hk⟩ := h
  have hx := List.getElem?_eq_getElem hn
  rw [sizeAt_eq hx] at hk
  have := sizeN_le wf hx
  omega
end Go.Proofs.YtabogkonklplcaaGreatDoor

namespace Go.Proofs.YtabogkonklplcaaGreatDoor
open Go.RowKit
set_option linter.unusedSimpArgs false
set_option linter.unusedVariables false
section
variable {w : World} {F : Nat → Prop} {bd bn cap : Nat} {rn : List RN} {rv : Value} {s : List Nd} {rs : List Sp}
end
end Go.Proofs.YtabogkonklplcaaGreatDoor

namespace Go.Proofs.YtabogkonklplcaaGreatDoor
open Go.RowKit
set_option linter.unusedSimpArgs false
set_option linter.unusedVariables false
section
variable {w : World} {F : Nat → Prop} {bd bn cap : Nat} {rn : List RN} {rv : Value} {s : List Nd} {rs : List Sp}
end
end Go.Proofs.YtabogkonklplcaaGreatDoor

namespace Go.Proofs.YtabogkonklplcaaGreatDoor
open Go.RowKit
set_option linter.unusedSimpArgs false
set_option linter.unusedVariables false
theorem spcells_set (rs : List Sp) (i : Nat) (r r' : Sp) (h : rs[i]? = some r) (j : Nat) (hj : j < 4) (u : Value) (he : r'.cells = r.cells.set j u) :
    (rs.flatMap Sp.cells).set (i * 4 + j) u = (rs.set i r').flatMap Sp.cells := by
  induction rs generalizing i with
  | nil => simp at h
  | cons a l ih =>
    cases i with
    | zero =>
      simp at h; subst h
      simp only [List.flatMap_cons, List.set_cons_zero, Nat.zero_mul, Nat.zero_add]
      rw [List.set_append_left _ _ (by simpa [Sp.cells] using hj), ← he]
    | succ i =>
      have e : (i + 1) * 4 + j = (i * 4 + j) + 4 := by omega
      simp only [List.flatMap_cons, List.set_cons_succ]
      rw [e, List.set_append_right _ _ (by simp [Sp.cells])]
      congr 1
      simpa [Sp.cells] using ih i (by simpa using h)
section
variable {w : World} {F : Nat → Prop} {bd bn cap : Nat} {rn : List RN} {rv : Value} {s : List Nd} {rs : List Sp}
theorem RDocAt.spanCells (hD : RDocAt w F bd bn cap rn rv s rs) {r : Nat} {x : Sp} (hx : rs[r]? = some x) : ∃ g c, rv = .slice (some ⟨g, 0, none⟩) rs.length c ∧ g < w.heap.size ∧ F g ∧ g ≠ bd ∧ g ≠ bn ∧ w.cell? ⟨g, r * 4, none⟩ = some (.int .i64 x.a) ∧ w.cell? ⟨g, r * 4 + 1, none⟩ = some (.int .i64 x.b) ∧ w.cell? ⟨g, r * 4 + 2, none⟩ = some (.int .i64 x.c) ∧ w.cell? ⟨g, r * 4 + 3, none⟩ = some (.int .i64 x.d) ∧
    (∀ o, w.frozen? ⟨g, o, none⟩ = false) := by
  have hr : r < rs.length := (List.getElem?_eq_some_iff.1 hx).1
  obtain ⟨g, rc, hrve⟩ : ∃ g c, rv = .slice (some ⟨g, 0, none⟩) rs.length c := by
    rcases row_cases hD.ranges with ⟨_, h0⟩ | ⟨g, c, h⟩
    · omega
    · exact ⟨g, c, h⟩
  have hrow := hD.ranges
  have ha := hD.apart g (by rw [hrve]; rfl)
  rw [hrve] at hrow
  refine ⟨g, rc, hrve, (hrow.lt g rfl).2, ha.1, ha.2.1, ha.2.2, ?_, ?_, ?_, ?_, fun o => hrow.frozenAt o⟩
  · have := hrow.cellAt (r * 4 + 0) (by omega); rw [spcells_get rs r x hx 0 (by omega)] at this; simpa [Sp.cells] using this
  · have := hrow.cellAt (r * 4 + 1) (by omega); rw [spcells_get rs r x hx 1 (by omega)] at this; simpa [Sp.cells] using this
  · have := hrow.cellAt (r * 4 + 2) (by omega); rw [spcells_get rs r x hx 2 (by omega)] at this; simpa [Sp.cells] using this
  · have := hrow.cellAt (r * 4 + 3) (by omega); rw [spcells_get rs r x hx 3 (by omega)] at this; simpa [Sp.cells] using this
end
theorem set_mid {α : Type} (f : α → α) (rs : List α) (q : Nat) (x : α) (hx : rs[q]? = some x) : ((rs.take q).map f ++ rs.drop q).set q (f x) = (rs.take (q + 1)).map f ++ rs.drop (q + 1) := by
  have hq : q < rs.length := (List.getElem?_eq_some_iff.1 hx).1
  have hd : rs.drop q = x :: rs.drop (q + 1) := by
    rw [List.drop_eq_getElem_cons hq]
    rw [(List.getElem?_eq_some_iff.1 hx).2]
  rw [hd, List.set_append_right _ _ (by simp; omega)]
  have e : q - ((rs.take q).map f).length = 0 := by simp; omega
  rw [e, List.set_cons_zero, List.take_add_one, hx]
  simp
theorem get_mid {α : Type} (f : α → α) (rs : List α) (q : Nat) (x : α) (hx : rs[q]? = some x) : ((rs.take q).map f ++ rs.drop q)[q]? = some x := by
  have hq : q < rs.length := (List.getElem?_eq_some_iff.1 hx).1
  rw [List.getElem?_append_right (by simp; omega)]
  have e : q - ((rs.take q).map f).length = 0 := by simp; omega
  rw [e]
  simpa using hx
section
variable {w : World} {F : Nat → Prop} {bd bn cap : Nat} {rn : List RN} {rv : Value} {s : List Nd} {rs : List Sp}
end
end Go.Proofs.YtabogkonklplcaaGreatDoor

namespace Go.Proofs.YtabogkonklplcaaGreatDoor
open Go.RowKit
set_option linter.unusedSimpArgs false
set_option linter.unusedVariables false
def leftN (n : Nat) (t : Value) : Nat := n - (intOf t).toNat
section
variable {w : World} {F : Nat → Prop} {bd bn cap : Nat} {rn : List RN} {rv : Value} {s : List Nd} {rs : List Sp}
theorem RDocAt.spanAt (hD : RDocAt w F bd bn cap rn rv s rs) {r g c n : Nat} {x : Sp} (hx : rs[r]? = some x) (hv : rv = .slice (some ⟨g, 0, none⟩) n c) : w.cell? ⟨g, r * 4, none⟩ = some (.int .i64 x.a) ∧ w.cell? ⟨g, r * 4 + 1, none⟩ = some (.int .i64 x.b) ∧ w.cell? ⟨g, r * 4 + 2, none⟩ = some (.int .i64 x.c) ∧ w.cell? ⟨g, r * 4 + 3, none⟩ = some (.int .i64 x.d) ∧
    (∀ o, w.frozen? ⟨g, o, none⟩ = false) := by
  obtain ⟨g', c', hv', _, _, _, _, h⟩ := hD.spanCells hx
  rw [hv] at hv'
  cases hv'
  exact h
end
def Small (rs : List Sp) : Prop := ∀ x ∈ rs, 0 ≤ x.b ∧ x.b ≤ 100 ∧ 0 ≤ x.d ∧ x.d ≤ 100
theorem Small.of {s : List Nd} (wf : WF s) {rs : List Sp} (h : ∀ x ∈ rs, SpOk s x) : Small rs := fun x hx => by
  have h1 := (h x hx).1.small wf
  have h2 := (h x hx).2.small wf
  omega
end Go.Proofs.YtabogkonklplcaaGreatDoor

namespace Go.Proofs.YtabogkonklplcaaGreatDoor
open Go.RowKit
set_option linter.unusedSimpArgs false
set_option linter.unusedVariables false
section
variable {w : World} {F : Nat → Prop} {bd bn cap : Nat} {rn : List RN} {rv : Value} {s : List Nd} {rs : List Sp}
end
end Go.Proofs.YtabogkonklplcaaGreatDoor
