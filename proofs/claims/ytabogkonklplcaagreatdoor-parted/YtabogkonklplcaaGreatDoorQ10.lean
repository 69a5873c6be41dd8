import Derived.Test.YtabogkonklplcaaGreatDoorQ06
import Derived.Lib.MapLaws
import Derived.Lib.UnsafeStr
import Derived.Lib.RuneBytes
import Derived.Lib.AppendStr
import Derived.Shelf.Spec.BytesIndexFunc
import Derived.Test.YtabogkonklplcaaGreatDoorQ07
import Derived.Deep.AppendLies
import Derived.Deep.RegionWith
import Derived.Deep.RegionHeld3
import Derived.Deep.Cut
import Derived.Deep.CutRange
import Derived.Shelf.Abstract
import Derived.Shelf.RegionOpen
import Derived.OwnWalkIn
import Derived.TacticsInMore
import Derived.LoopNIn
import Derived.LoopIn
import Derived.Maps.AppendAt
import Derived.Maps.OwnIn
import Derived.BigQuiet
import Derived.Deep.QuietTactic
import Derived.Laws.AppendOwnNone

namespace Go.Proofs.YtabogkonklplcaaGreatDoor
open Go.RowKit
set_option linter.unusedSimpArgs false
set_option linter.unusedVariables false
theorem if_ext {n n' m k : Nat} {q : Prop} {d : Decidable (m ≤ n ∧ q)} {d' : Decidable (m ≤ n' ∧ q)} (hn : n ≤ n') (h : (if m ≤ n ∧ q then k else 0) ≠ 0) : (if m ≤ n' ∧ q then k else 0) = if m ≤ n ∧ q then k else 0 := by
  by_cases c : m ≤ n ∧ q
  · exact (if_pos (show m ≤ n' ∧ q from ⟨by omega, c.2⟩)).trans (if_pos c).symm
  · rw [if_neg c] at h; exact absurd rfl h
theorem headN_ext {n n' b0 b1 b2 b3 : Nat} (hn : n ≤ n') (h : headN n b0 b1 b2 b3 ≠ 0) : headN n' b0 b1 b2 b3 = headN n b0 b1 b2 b3 := by
  unfold headN at h ⊢
  by_cases a : b0 < 128
  · simp only [if_pos a]
  simp only [if_neg a] at h ⊢
  by_cases c1 : 194 ≤ b0 ∧ b0 ≤ 223
  · simp only [if_pos c1] at h ⊢
    exact if_ext hn h
  simp only [if_neg c1] at h ⊢
  by_cases c2 : b0 = 224
  · simp only [if_pos c2] at h ⊢
    exact if_ext hn h
  simp only [if_neg c2] at h ⊢
  by_cases c3 : b0 = 237
  · simp only [if_pos c3] at h ⊢
    exact if_ext hn h
  simp only [if_neg c3] at h ⊢
  by_cases c4 : 225 ≤ b0 ∧ b0 ≤ 239
  · simp only [if_pos c4] at h ⊢
    exact if_ext hn h
  simp only [if_neg c4] at h ⊢
  by_cases c5 : b0 = 240
  · simp only [if_pos c5] at h ⊢
    exact if_ext hn h
  simp only [if_neg c5] at h ⊢
  by_cases c6 : 241 ≤ b0 ∧ b0 ≤ 243
  · simp only [if_pos c6] at h ⊢
    exact if_ext hn h
  simp only [if_neg c6] at h ⊢
  by_cases c7 : b0 = 244
  · simp only [if_pos c7] at h ⊢
    exact if_ext hn h
  simp only [if_neg c7] at h ⊢
theorem byteI_app (c r : ByteArray) (i : Nat) (h : i < c.size) : byteI (c ++ r) i = byteI c i := by
  unfold byteI
  rw [dif_pos (by rw [ByteArray.size_append]; omega), dif_pos h, ByteArray.getElem_append_left h]
theorem headW_app {c : ByteArray} (h : IsCh c) (r : ByteArray) : headW (c ++ r) = c.size := by
  obtain ⟨h0, h1⟩ := h
  have hs : (c ++ r).size = c.size + r.size := ByteArray.size_append
  have e1 := headW_eq (c ++ r) (by omega) (byteN (c ++ r) 0) (byteN (c ++ r) 1) (byteN (c ++ r) 2) (byteN (c ++ r) 3) (byteI_nat _ 0 (by omega)) (fun h => byteI_nat _ 1 h) (fun h => byteI_nat _ 2 h) (fun h => byteI_nat _ 3 h)
  have e2 := headW_eq c (by omega) (byteN (c ++ r) 0) (byteN (c ++ r) 1) (byteN (c ++ r) 2) (byteN (c ++ r) 3) (by rw [← byteI_app c r 0 (by omega)]; exact byteI_nat _ 0 (by omega)) (fun h => by rw [← byteI_app c r 1 h]; exact byteI_nat _ 1 (by omega)) (fun h => by rw [← byteI_app c r 2 h]; exact byteI_nat _ 2 (by omega)) (fun h => by rw [← byteI_app c r 3 h]; exact byteI_nat _ 3 (by omega))
  rw [h1] at e2
  rw [e1, headN_ext (n := c.size) (by omega) (by rw [← e2]; exact h0), ← e2]
theorem extract_app (a b : ByteArray) : (a ++ b).extract a.size (a ++ b).size = b := by
  rw [ByteArray.size_append]
  have e := ByteArray.extract_append_size_add (a := a) (b := b) (i := 0) (j := b.size)
  rw [Nat.add_zero] at e
  rw [e]
  exact ByteArray.extract_zero_size
theorem decode_head (c r : ByteArray) (h : IsCh c) : (Utf8.decode (c ++ r) 0).2 = c.size ∧ Lib.runeCells ((Utf8.decode (c ++ r) 0).1 : Int) = Lib.strCells c := by
  have hs : (c ++ r).size = c.size + r.size := ByteArray.size_append
  have h0 := h.1
  have e0 : (c ++ r).extract 0 (c ++ r).size = c ++ r := ByteArray.extract_zero_size
  have hw := headW_at (c ++ r) 0 (by omega)
  rw [e0, headW_app h r] at hw
  rcases hw with ⟨h1, _⟩ | ⟨_, h2, h3⟩
  · exact absurd h1 h0
  · refine ⟨h2, ?_⟩
    have e := Lib.encode_decode (c ++ r).data.toList (by intro e; have : (c ++ r).size = 0 := by rw [← ByteArray.size_data, ← Array.length_toList, e]; rfl
                                                         omega) (by
      show ¬ ((Utf8.decode (c ++ r) 0).1 = 65533 ∧ (Utf8.decode (c ++ r) 0).2 = 1)
      exact fun hh => h3 (Prod.ext hh.1 hh.2))
    have e2 : Lib.decodeL (c ++ r).data.toList = Utf8.decode (c ++ r) 0 := rfl
    rw [e2, h2] at e
    rw [← Lib.byteCells_encodeRune, e, Lib.strCells_eq]
    congr 1
    simp [ByteArray.data_append]
end Go.Proofs.YtabogkonklplcaaGreatDoor

namespace Go.Proofs.YtabogkonklplcaaGreatDoor
open Go.RowKit
set_option linter.unusedSimpArgs false
set_option linter.unusedVariables false
section
variable {PD : PDT} {Q : Nat → Prop} {w0 w : World} {yb : Nat} {docs : List DocR} {own : Nat → Nat} {psv : Value}
theorem Inv.pushed (hPD : PDOk PD) (h : Inv PD Q w0 w yb docs own psv) {w1 w2 wA w3 : World} {bx bd g' cap' A : Nat} (b1 : Below w.heap.size w w1) (hA : w.heap.size ≤ A) (hA1 : A ≤ w1.heap.size) (pd : PD w1 (fun b => A ≤ b) bx ⟨[rootNd], []⟩)
    (b2 : Below w1.heap.size w1 w2) (rd : RDoc w2 (fun b => w1.heap.size ≤ b) bd [rootNd] []) (bA : Below w2.heap.size w2 wA) (hz : w2.heap.size < wA.heap.size)
    (hg : wA.grownBy w3 psv.ownBlock) (ho : w3.ownsRow 0 44 2 (.slice (some ⟨g', 0, none⟩) (docs.length + 1) cap') (docs.length + 1) ((docs.flatMap fun d => [ptr d.bx, ptr d.bd]) ++ [ptr bx, ptr bd]))
    (hgn : psv.ownBlock = some g' ∨ g' = wA.heap.size) :
    InvE PD Q w0 (w3.setCell ⟨yb, 0, none⟩ (.slice (some ⟨g', 0, none⟩) (docs.length + 1) cap')) yb (docs ++ [⟨bx, bd, ⟨[rootNd], []⟩⟩]) := by
  have z1 := b1.size
  have z2 := b2.size
  have zA := bA.size
  have z3 := hg.size
  have hbl := h.bl
  have hgl : g' < w3.heap.size := (ho.lt g' rfl).2
  have hyb : yb < w.heap.size := (h.ol yb (by rw [h.oy]; decide)).2
  have hps : ∀ b, psv.ownBlock = some b → b < w.heap.size ∧ own b = 1 ∧ b ≠ yb := fun b e => ⟨(h.ol b (by rw [(h.ops b e).1]; decide)).2, h.ops b e⟩
  have hgy : g' ≠ yb := by
    rcases hgn with e | e
    · exact (hps g' e).2.2
    · omega
  have kA : Below w.heap.size w wA := (b1.trans (b2.mono z1)).trans (bA.mono (by omega))
  have k3 : Keeps (fun b => psv.ownBlock = some b) wA w3 := Keeps.grown hg (fun k e => .inl e)
  have kW : Keeps (fun b => psv.ownBlock = some b ∨ b = yb) wA (w3.setCell ⟨yb, 0, none⟩ (.slice (some ⟨g', 0, none⟩) (docs.length + 1) cap')) :=
    (k3.mono (fun k _ e => .inl e)).setCell (p := ⟨yb, 0, none⟩) (.inl (.inr rfl)) _
  have zW : (w3.setCell ⟨yb, 0, none⟩ (.slice (some ⟨g', 0, none⟩) (docs.length + 1) cap')).heap.size = w3.heap.size := by simp
  have newK : ∀ {F : Nat → Prop}, (∀ b, F b → w.heap.size ≤ b) → ∀ b, F b → ¬ (psv.ownBlock = some b ∨ b = yb) := by
    intro F hF b hb e
    have := hF b hb
    rcases e with e | e
    · have := (hps b e).1; omega
    · omega
  refine ⟨fun b => if w.heap.size ≤ b then (if b = g' then 1 else if b < A then 0 else if b < w1.heap.size then 2 * docs.length + 2 else if b < w2.heap.size then 2 * docs.length + 3 else 0) else own b, .slice (some ⟨g', 0, none⟩) (docs.length + 1) cap', ?_⟩
  have hg2 : g' < w.heap.size ∨ w2.heap.size ≤ g' := by
    rcases hgn with e | e
    · exact .inl (hps g' e).1
    · exact .inr (by omega)
  refine ⟨?_, ?_, ?_, ?_, ?_, ?_, ?_, ?_⟩
  · obtain ⟨l0, a0, y0, he, hq⟩ := h.play
    have e1 : w3.heap[yb]? = _ := (k3.block yb (by omega) (fun e => (hps yb e).2.2 rfl)).trans ((kA.block yb hyb).trans hq)
    refine ⟨l0, a0, y0, he, ?_⟩
    rw [heap_setCell_same w3 yb 0 _ _ _ e1]; simp
  · rw [List.length_append, List.flatMap_append]
    simpa using row_setCell_other ho (p := ⟨yb, 0, none⟩) (by simp [Value.ownBlock]; exact hgy) _
  · rw [if_neg (by omega)]; exact h.oy
  · intro b e
    have e' : g' = b := by simpa [Value.ownBlock] using e
    subst e'
    refine ⟨?_, hgy⟩
    rcases hgn with e | e
    · have := hps g' e
      rw [if_neg (by omega)]; exact this.2.1
    · rw [if_pos (by omega), if_pos rfl]
  · intro b e
    rw [zW]
    split at e
    · refine ⟨hbl b (by omega), ?_⟩
      split at e
      · rename_i hb; rw [hb]; exact hgl
      · split at e
        · exact absurd rfl e
        · split at e
          · omega
          · split at e
            · omega
            · exact absurd rfl e
    · have := h.ol b e
      exact ⟨this.1, by omega⟩
  · intro b e; rw [zW] at e; exact hbl b (by omega)
  · refine (h.fr.trans (Keeps.of_below kA)).trans (kW.mono (fun k _ e => .inl ?_))
    rcases e with e | e
    · exact (h.ol k (by rw [(h.ops k e).1]; decide)).1
    · rw [e]; exact (h.ol yb (by rw [h.oy]; decide)).1
  · intro i d hd
    by_cases hi : i < docs.length
    · rw [List.getElem?_append_left hi] at hd
      obtain ⟨h1, h2, h3⟩ := h.doc i d hd
      have kA' := Keeps.of_below (F := fun _ => False) kA
      refine ⟨hPD.wider (hPD.keeps (hPD.keeps h1 kA' (fun _ _ e => e)) kW (fun b hb e => ?_)) (fun b hb => ?_), ((h2.keeps kA' (fun _ _ e => e)).keeps kW (fun b hb e => ?_)).wider (fun b hb => ?_), h3⟩
      · rcases e with e | e
        · have := (hps b e).2.1; omega
        · rw [e, h.oy] at hb; omega
      · have := (h.ol b (by omega)).2
        rw [if_neg (by omega)]; exact hb
      · rcases e with e | e
        · have := (hps b e).2.1; omega
        · rw [e, h.oy] at hb; omega
      · have := (h.ol b (by omega)).2
        rw [if_neg (by omega)]; exact hb
    · rw [List.getElem?_append_right (by omega)] at hd
      have hi1 := (List.getElem?_eq_some_iff.1 hd).1
      simp at hi1
      have ei : i = docs.length := by omega
      subst ei
      simp at hd
      subst hd
      have p1 := hPD.narrow pd
      have p2 := hPD.keeps p1 (Keeps.of_below (F := fun _ => False) b2) (fun _ _ e => e)
      have p3 := hPD.keeps p2 (Keeps.of_below (F := fun _ => False) bA) (fun _ _ e => e)
      have p4 := hPD.keeps p3 kW (newK (fun b hb => by omega))
      have r1 := rd.narrow
      have r2 := r1.keeps (Keeps.of_below (F := fun _ => False) bA) (fun _ _ e => e)
      have r3 := r2.keeps kW (newK (fun b hb => by omega))
      refine ⟨hPD.wider p4 (fun b hb => ?_), r3.wider (fun b hb => ?_), hPD.root⟩
      · rw [if_pos (by omega), if_neg (by omega), if_neg (by omega), if_pos (by omega)]
      · rw [if_pos (by omega), if_neg (by omega), if_neg (by omega), if_neg (by omega), if_pos (by omega)]
end
section
variable {PD : PDT} {G : World → Prop} {Q : Nat → Prop} {w0 w : World} {yb : Nat} {docs : List DocR}
end
end Go.Proofs.YtabogkonklplcaaGreatDoor

namespace Go.Proofs.YtabogkonklplcaaGreatDoor
open Go.RowKit
set_option linter.unusedSimpArgs false
set_option linter.unusedVariables false
structure OpR where
  kind : Int
  D : Int
  A : Int
  B : Int
  C : Int
  S : ByteArray
  p0 : Int
  p1 : Int
  q0 : Int
  q1 : Int
abbrev OpR.cells (o : OpR) : List Value := [.int .i64 o.kind, .int .i64 o.D, .int .i64 o.A, .int .i64 o.B, .int .i64 o.C, .string o.S, .int .i64 o.p0, .int .i64 o.p1, .int .i64 o.q0, .int .i64 o.q1]
abbrev OpR.val (o : OpR) : Value := opV o.kind o.D o.A o.B o.C o.S o.p0 o.p1 o.q0 o.q1
end Go.Proofs.YtabogkonklplcaaGreatDoor

namespace Go.Proofs.YtabogkonklplcaaGreatDoor
open Go.RowKit
set_option linter.unusedSimpArgs false
set_option linter.unusedVariables false
end Go.Proofs.YtabogkonklplcaaGreatDoor

namespace Go.Proofs.YtabogkonklplcaaGreatDoor
open Go.RowKit
set_option linter.unusedSimpArgs false
set_option linter.unusedVariables false
theorem wf_push {s : List Nd} (wf : WF s) (h40 : s.length < 40) (x : Nd) (hp : x.p = -1) (hk : x.ks = []) (he : x.t = false → x.cs = []) (hc : x.cs.length ≤ 30 ∧ ∀ c ∈ x.cs, IsCh c) : WF (s ++ [x]) := by
  have old : ∀ {i : Nat} {y : Nd}, (s ++ [x])[i]? = some y → s[i]? = some y ∨ (i = s.length ∧ y = x) := by
    intro i y h
    by_cases hi : i < s.length
    · rw [List.getElem?_append_left hi] at h; exact .inl h
    · rw [List.getElem?_append_right (by omega)] at h
      have h1 := (List.getElem?_eq_some_iff.1 h).1
      simp at h1
      have e : i = s.length := by omega
      subst e
      simp at h
      exact .inr ⟨rfl, h.symm⟩
  have new : ∀ {i : Nat} {y : Nd}, s[i]? = some y → (s ++ [x])[i]? = some y := by
    intro i y h
    rw [List.getElem?_append_left (List.getElem?_eq_some_iff.1 h).1]; exact h
  refine ⟨by simp, by simp; omega, ?_, ?_, ?_, ?_, ?_, ?_, ?_⟩
  · obtain ⟨h, B, u⟩ := wf.up
    refine ⟨h, B, u.le, fun i y hy hyp => ?_⟩
    rcases old hy with hy | ⟨rfl, rfl⟩
    · have := u.par i y hy hyp
      exact ⟨by simp; omega, this.2⟩
    · rw [hp] at hyp; omega
  · intro i y hy c hc2
    rcases old hy with hy | ⟨rfl, rfl⟩
    · obtain ⟨z, hz, hzp⟩ := wf.kid i y hy c hc2
      exact ⟨z, new hz, hzp⟩
    · rw [hk] at hc2; simp at hc2
  · intro c y hy
    rcases old hy with hy | ⟨rfl, rfl⟩
    · rcases wf.par c y hy with h | ⟨i, z, h1, h2, h3⟩
      · exact .inl h
      · exact .inr ⟨i, z, h1, new h2, h3⟩
    · exact .inl hp
  · intro i y hy
    rcases old hy with hy | ⟨rfl, rfl⟩
    · exact wf.nodup i y hy
    · rw [hk]; simp
  · intro y hy
    rcases old hy with hy | ⟨h, rfl⟩
    · exact wf.root y hy
    · exact hp
  · intro i y hy
    rcases old hy with hy | ⟨rfl, rfl⟩
    · exact wf.elem i y hy
    · exact ⟨fun _ => hk, he⟩
  · intro i y hy
    rcases old hy with hy | ⟨rfl, rfl⟩
    · exact wf.chars i y hy
    · exact hc
theorem set2_get {s : List Nd} {i j : Nat} {x y : Nd} (hx : s[i]? = some x) (hy : s[j]? = some y) (hij : i ≠ j) (ks : List Nat) (p : Int) (c : Nat) :
    ((s.set i { x with ks := ks }).set j { y with p := p })[c]? = (s[c]?).map (fun z => if c = j then { z with p := p } else if c = i then { z with ks := ks } else z) := by
  have hi := (List.getElem?_eq_some_iff.1 hx).1
  have hj := (List.getElem?_eq_some_iff.1 hy).1
  rw [List.getElem?_set, List.getElem?_set]
  by_cases h1 : j = c
  · subst h1
    rw [if_pos rfl, if_pos (by simpa using hj), hy]
    simp
  · rw [if_neg h1]
    by_cases h2 : i = c
    · subst h2
      rw [if_pos rfl, if_pos hi, hx]
      have e1 : ¬ i = j := hij
      simp [e1]
    · rw [if_neg h2]
      have e1 : ¬ c = j := fun e => h1 e.symm
      have e2 : ¬ c = i := fun e => h2 e.symm
      simp [e1, e2]
theorem within_true_of_climb {s : List Nd} {h : Nat → Nat} {B : Nat} (u : Up s h B) : ∀ (m d e : Nat), d < s.length → climb s m d = (e : Int) → Lim (fun c => withinF s c (d : Int) (e : Int)) true := by
  intro m
  induction m with
  | zero =>
    intro d e hd he
    have : d = e := by simp [climb] at he; omega
    subst this
    exact within_hit s _ (by omega)
  | succ m ih =>
    intro d e hd he
    by_cases hde : (d : Int) = (e : Int)
    · have : d = e := by omega
      subst this
      exact within_hit s _ (by omega)
    · have hx : s[d]? = some s[d] := List.getElem?_eq_getElem hd
      generalize s[d] = x at hx
      refine within_up s d x e hx hde ?_
      have e1 : climb s 1 d = x.p := by rw [climb_step (j := 0) (e := d) rfl]; simp [parOf, hx]
      by_cases hp : 0 ≤ x.p
      · obtain ⟨q, hq⟩ := Int.eq_ofNat_of_zero_le hp
        rw [hq] at e1 ⊢
        have e2 := climb_add e1 m
        rw [Nat.add_comm 1 m, he] at e2
        have := (u.par d x hx hp).1
        exact ih q e (by omega) e2.symm
      · exfalso
        have hneg : ∀ k, climb s (k + 1) d < 0 := by
          intro k
          induction k with
          | zero => rw [show (0 + 1) = 1 from rfl, e1]; omega
          | succ k ih2 => simp [climb] at ih2 ⊢; omega
        have := hneg m
        omega
theorem wf_insert {s : List Nd} (wf : WF s) {i j k : Nat} {x y : Nd} (h : InsOk s i j x y) (hw : Lim (fun c => withinF s c (i : Int) (j : Int)) false) (hk : k ≤ x.ks.length) :
    i ≠ j ∧ WF ((s.set i { x with ks := x.ks.take k ++ j :: x.ks.drop k }).set j { y with p := i }) := by
  obtain ⟨hx, hy, ht, hj, hyp⟩ := h
  have hil := (List.getElem?_eq_some_iff.1 hx).1
  have hjl := (List.getElem?_eq_some_iff.1 hy).1
  have hij : i ≠ j := by
    intro e
    subst e
    have := (within_hit s (i : Int) (by omega)).unique hw
    cases this
  obtain ⟨ht0, B, u⟩ := wf.up
  have noanc : ∀ m, climb s m i ≠ (j : Int) := by
    intro m e
    have := (within_true_of_climb u m i j hil e).unique hw
    cases this
  have jnot : j ∉ x.ks := by
    intro e
    obtain ⟨z, hz, hzp⟩ := wf.kid i x hx j e
    rw [hy] at hz
    cases hz
    omega
  have get := set2_get hx hy hij (x.ks.take k ++ j :: x.ks.drop k) (i : Int)
  have mem : ∀ c, c ∈ x.ks.take k ++ j :: x.ks.drop k ↔ c = j ∨ c ∈ x.ks := by
    intro c
    conv => rhs; rw [← List.take_append_drop k x.ks]
    simp only [List.mem_append, List.mem_cons]
    constructor
    · rintro (h | h | h) <;> simp [h]
    · rintro (h | h | h) <;> simp [h]
  -- what a node of the new state was
  have was : ∀ {c : Nat} {z' : Nd}, ((s.set i { x with ks := x.ks.take k ++ j :: x.ks.drop k }).set j { y with p := i })[c]? = some z' → ∃ z, s[c]? = some z ∧ z'.t = z.t ∧ z'.cs = z.cs ∧ z'.p = (if c = j then (i : Int) else z.p) ∧ z'.ks = (if c = i then x.ks.take k ++ j :: x.ks.drop k else z.ks) := by
    intro c z' hz'
    rw [get c] at hz'
    obtain ⟨z, hz, rfl⟩ := Option.map_eq_some_iff.1 hz'
    refine ⟨z, hz, ?_⟩
    by_cases e1 : c = j
    · subst e1
      have e2 : ¬ c = i := fun e => hij e.symm
      simp [e2]
    · by_cases e2 : c = i
      · subst e2; simp [e1]
      · simp [e1, e2]
  have now : ∀ {c : Nat} {z : Nd}, s[c]? = some z → ∃ z', ((s.set i { x with ks := x.ks.take k ++ j :: x.ks.drop k }).set j { y with p := i })[c]? = some z' ∧ z'.p = (if c = j then (i : Int) else z.p) ∧ z'.ks = (if c = i then x.ks.take k ++ j :: x.ks.drop k else z.ks) := by
    intro c z hz
    refine ⟨_, by rw [get c, hz]; rfl, ?_⟩
    by_cases e1 : c = j
    · subst e1
      have e2 : ¬ c = i := fun e => hij e.symm
      simp [e2]
    · by_cases e2 : c = i
      · subst e2; simp [e1]
      · simp [e1, e2]
  refine ⟨hij, by simpa using wf.pos, by simpa using wf.cap, ?_, ?_, ?_, ?_, ?_, ?_, ?_⟩
  · classical
    refine ⟨fun d => if ∃ m, climb s m i = (d : Int) then ht0 d + ht0 j + 1 else ht0 d, B + B + 1, fun d => ?_, fun d z' hz' hp' => ?_⟩
    · have h1 := u.le d
      have h2 := u.le j
      split <;> omega
    · obtain ⟨z, hz, _, _, hzp, _⟩ := was hz'
      have hdl := (List.getElem?_eq_some_iff.1 hz).1
      by_cases e1 : d = j
      · subst e1
        rw [if_pos rfl] at hzp
        rw [hzp]
        refine ⟨by simp; omega, ?_⟩
        simp only [Int.toNat_natCast]
        rw [if_neg (by rintro ⟨m, hm⟩; exact noanc m hm), if_pos ⟨0, rfl⟩]
        omega
      · rw [if_neg e1] at hzp
        rw [hzp] at hp' ⊢
        have hu := u.par d z hz hp'
        refine ⟨by simp; omega, ?_⟩
        obtain ⟨q, hq⟩ := Int.eq_ofNat_of_zero_le hp'
        rw [hq] at hu ⊢
        simp only [Int.toNat_natCast] at hu ⊢
        by_cases ha : ∃ m, climb s m i = (d : Int)
        · obtain ⟨m, hm⟩ := ha
          have e2 : climb s (m + 1) i = (q : Int) := by rw [climb_step hm]; simp [parOf, hz, hq]
          rw [if_pos ⟨m, hm⟩, if_pos ⟨m + 1, e2⟩]
          omega
        · rw [if_neg ha]
          split <;> omega
  · intro a z' hz' c hc
    obtain ⟨z, hz, _, _, _, hzk⟩ := was hz'
    rw [hzk] at hc
    by_cases e : a = i
    · subst e
      rw [if_pos rfl, mem] at hc
      rcases hc with rfl | hc
      · obtain ⟨z2, h2, hp2, _⟩ := now hy
        exact ⟨z2, h2, by rw [hp2, if_pos rfl]⟩
      · obtain ⟨z2, h2, hp2⟩ := wf.kid a x hx c hc
        obtain ⟨z3, h3, hp3, _⟩ := now h2
        refine ⟨z3, h3, ?_⟩
        rw [hp3]
        by_cases ec : c = j
        · subst ec; exact absurd hc jnot
        · rw [if_neg ec]; exact hp2
    · rw [if_neg e] at hc
      obtain ⟨z2, h2, hp2⟩ := wf.kid a z hz c hc
      obtain ⟨z3, h3, hp3, _⟩ := now h2
      refine ⟨z3, h3, ?_⟩
      rw [hp3]
      by_cases ec : c = j
      · subst ec
        rw [hy] at h2
        cases h2
        omega
      · rw [if_neg ec]; exact hp2
  · intro c z' hz'
    obtain ⟨z, hz, _, _, hzp, _⟩ := was hz'
    by_cases e1 : c = j
    · subst e1
      rw [if_pos rfl] at hzp
      obtain ⟨z2, h2, _, hk2⟩ := now hx
      rw [if_pos rfl] at hk2
      exact .inr ⟨i, z2, hzp, h2, by rw [hk2, mem]; exact .inl rfl⟩
    · rw [if_neg e1] at hzp
      rcases wf.par c z hz with hm | ⟨a, z2, h1, h2, h3⟩
      · exact .inl (by rw [hzp]; exact hm)
      · obtain ⟨z3, h4, _, hk3⟩ := now h2
        refine .inr ⟨a, z3, by rw [hzp]; exact h1, h4, ?_⟩
        rw [hk3]
        by_cases ea : a = i
        · subst ea
          rw [if_pos rfl, mem]
          rw [hx] at h2
          cases h2
          exact .inr h3
        · rw [if_neg ea]; exact h3
  · intro a z' hz'
    obtain ⟨z, hz, _, _, _, hzk⟩ := was hz'
    rw [hzk]
    by_cases e : a = i
    · rw [if_pos e]
      have hn := wf.nodup i x hx
      have e2 : x.ks = x.ks.take k ++ x.ks.drop k := (List.take_append_drop k x.ks).symm
      rw [e2, List.nodup_append] at hn
      have j1 : j ∉ x.ks.take k := fun h => jnot (List.mem_of_mem_take h)
      have j2 : j ∉ x.ks.drop k := fun h => jnot (List.mem_of_mem_drop h)
      rw [List.nodup_append, List.nodup_cons]
      refine ⟨hn.1, ⟨j2, hn.2.1⟩, fun p hp q hq => ?_⟩
      rcases List.mem_cons.1 hq with rfl | hq
      · exact fun e => j1 (e ▸ hp)
      · exact hn.2.2 p hp q hq
    · rw [if_neg e]; exact wf.nodup a z hz
  · intro z' hz'
    obtain ⟨z, hz, _, _, hzp, _⟩ := was hz'
    rw [hzp, if_neg (by omega)]
    exact wf.root z hz
  · intro a z' hz'
    obtain ⟨z, hz, hzt, hzc, _, hzk⟩ := was hz'
    rw [hzt, hzc, hzk]
    have he := wf.elem a z hz
    refine ⟨fun h => ?_, he.2⟩
    by_cases e : a = i
    · subst e
      rw [hx] at hz
      cases hz
      rw [ht] at h
      cases h
    · rw [if_neg e]; exact he.1 h
  · intro a z' hz'
    obtain ⟨z, hz, _, hzc, _, _⟩ := was hz'
    rw [hzc]
    exact wf.chars a z hz
theorem wf_remove {s : List Nd} (wf : WF s) {i j m : Nat} {x y : Nd} (hx : s[i]? = some x) (hxp : x.p = (j : Int)) (hy : s[j]? = some y) (hm : y.ks[m]? = some i) :
    i ≠ j ∧ WF ((s.set j { y with ks := y.ks.take m ++ y.ks.drop (m + 1) }).set i { x with p := -1 }) := by
  have hil := (List.getElem?_eq_some_iff.1 hx).1
  have hjl := (List.getElem?_eq_some_iff.1 hy).1
  have hml := (List.getElem?_eq_some_iff.1 hm).1
  obtain ⟨ht0, B, u⟩ := wf.up
  have hij : j ≠ i := by
    intro e
    subst e
    have := (u.par j x hx (by omega)).2
    rw [hxp] at this
    simp at this
  have hn := wf.nodup j y hy
  have split : y.ks = y.ks.take m ++ i :: y.ks.drop (m + 1) := by
    conv => lhs; rw [← List.take_append_drop m y.ks]
    rw [List.drop_eq_getElem_cons hml]
    have : y.ks[m] = i := by rw [List.getElem?_eq_getElem hml] at hm; exact Option.some.inj hm
    rw [this]
  have hn2 := hn
  rw [split, List.nodup_append, List.nodup_cons] at hn2
  have i1 : i ∉ y.ks.take m := fun h => hn2.2.2 i h i (by simp) rfl
  have mem : ∀ c, c ∈ y.ks.take m ++ y.ks.drop (m + 1) ↔ c ≠ i ∧ c ∈ y.ks := by
    intro c
    constructor
    · intro h
      rw [List.mem_append] at h
      refine ⟨?_, ?_⟩
      · rintro rfl
        rcases h with h | h
        · exact i1 h
        · exact hn2.2.1.1 h
      · rcases h with h | h
        · exact List.mem_of_mem_take h
        · exact List.mem_of_mem_drop h
    · rintro ⟨h1, h2⟩
      rw [split] at h2
      simp only [List.mem_append, List.mem_cons] at h2 ⊢
      rcases h2 with h | h | h
      · exact .inl h
      · exact absurd h h1
      · exact .inr h
  have get := set2_get hy hx hij (y.ks.take m ++ y.ks.drop (m + 1)) (-1 : Int)
  have was : ∀ {c : Nat} {z' : Nd}, ((s.set j { y with ks := y.ks.take m ++ y.ks.drop (m + 1) }).set i { x with p := -1 })[c]? = some z' → ∃ z, s[c]? = some z ∧ z'.t = z.t ∧ z'.cs = z.cs ∧ z'.p = (if c = i then (-1 : Int) else z.p) ∧ z'.ks = (if c = j then y.ks.take m ++ y.ks.drop (m + 1) else z.ks) := by
    intro c z' hz'
    rw [get c] at hz'
    obtain ⟨z, hz, rfl⟩ := Option.map_eq_some_iff.1 hz'
    refine ⟨z, hz, ?_⟩
    by_cases e1 : c = i
    · subst e1
      have e2 : ¬ c = j := fun e => hij e.symm
      simp [e2]
    · by_cases e2 : c = j
      · subst e2; simp [e1]
      · simp [e1, e2]
  have now : ∀ {c : Nat} {z : Nd}, s[c]? = some z → ∃ z', ((s.set j { y with ks := y.ks.take m ++ y.ks.drop (m + 1) }).set i { x with p := -1 })[c]? = some z' ∧ z'.p = (if c = i then (-1 : Int) else z.p) ∧ z'.ks = (if c = j then y.ks.take m ++ y.ks.drop (m + 1) else z.ks) := by
    intro c z hz
    refine ⟨_, by rw [get c, hz]; rfl, ?_⟩
    by_cases e1 : c = i
    · subst e1
      have e2 : ¬ c = j := fun e => hij e.symm
      simp [e2]
    · by_cases e2 : c = j
      · subst e2; simp [e1]
      · simp [e1, e2]
  refine ⟨fun e => hij e.symm, by simpa using wf.pos, by simpa using wf.cap, ?_, ?_, ?_, ?_, ?_, ?_, ?_⟩
  · refine ⟨ht0, B, u.le, fun d z' hz' hp' => ?_⟩
    obtain ⟨z, hz, _, _, hzp, _⟩ := was hz'
    by_cases e1 : d = i
    · rw [if_pos e1] at hzp; omega
    · rw [if_neg e1] at hzp
      rw [hzp] at hp' ⊢
      have := u.par d z hz hp'
      exact ⟨by simpa using this.1, this.2⟩
  · intro a z' hz' c hc
    obtain ⟨z, hz, _, _, _, hzk⟩ := was hz'
    rw [hzk] at hc
    have hc2 : c ∈ z.ks ∧ c ≠ i := by
      by_cases e : a = j
      · subst e
        rw [if_pos rfl, mem] at hc
        rw [hy] at hz
        cases hz
        exact ⟨hc.2, hc.1⟩
      · rw [if_neg e] at hc
        refine ⟨hc, ?_⟩
        rintro rfl
        obtain ⟨z2, h2, hp2⟩ := wf.kid a z hz c hc
        rw [hx] at h2
        cases h2
        rw [hxp] at hp2
        exact e (by omega)
    obtain ⟨z2, h2, hp2⟩ := wf.kid a z hz c hc2.1
    obtain ⟨z3, h3, hp3, _⟩ := now h2
    exact ⟨z3, h3, by rw [hp3, if_neg hc2.2]; exact hp2⟩
  · intro c z' hz'
    obtain ⟨z, hz, _, _, hzp, _⟩ := was hz'
    by_cases e1 : c = i
    · rw [if_pos e1] at hzp; exact .inl hzp
    · rw [if_neg e1] at hzp
      rcases wf.par c z hz with hmm | ⟨a, z2, h1, h2, h3⟩
      · exact .inl (by rw [hzp]; exact hmm)
      · obtain ⟨z3, h4, _, hk3⟩ := now h2
        refine .inr ⟨a, z3, by rw [hzp]; exact h1, h4, ?_⟩
        rw [hk3]
        by_cases ea : a = j
        · subst ea
          rw [if_pos rfl, mem]
          rw [hy] at h2
          cases h2
          exact ⟨e1, h3⟩
        · rw [if_neg ea]; exact h3
  · intro a z' hz'
    obtain ⟨z, hz, _, _, _, hzk⟩ := was hz'
    rw [hzk]
    by_cases e : a = j
    · rw [if_pos e, List.nodup_append]
      exact ⟨hn2.1, hn2.2.1.2, fun p hp q hq => hn2.2.2 p hp q (by simp [hq])⟩
    · rw [if_neg e]; exact wf.nodup a z hz
  · intro z' hz'
    obtain ⟨z, hz, _, _, hzp, _⟩ := was hz'
    rw [hzp]
    split
    · rfl
    · exact wf.root z hz
  · intro a z' hz'
    obtain ⟨z, hz, hzt, hzc, _, hzk⟩ := was hz'
    rw [hzt, hzc, hzk]
    have he := wf.elem a z hz
    refine ⟨fun h => ?_, he.2⟩
    have h1 := he.1 h
    by_cases e : a = j
    · subst e
      rw [hy] at hz
      cases hz
      rw [if_pos rfl, h1]; simp
    · rw [if_neg e]; exact h1
  · intro a z' hz'
    obtain ⟨z, hz, _, hzc, _, _⟩ := was hz'
    rw [hzc]
    exact wf.chars a z hz
theorem WF.place {s : List Nd} (wf : WF s) {i : Nat} {x : Nd} (hx : s[i]? = some x) (hp : 0 ≤ x.p) : ∃ (j m : Nat) (y : Nd), x.p = (j : Int) ∧ s[j]? = some y ∧ y.ks[m]? = some i ∧ i ∉ y.ks.take m ∧ y.ks.length ≤ 40 := by
  rcases wf.par i x hx with h | ⟨j, y, h1, h2, h3⟩
  · omega
  · obtain ⟨m, hm, he⟩ := List.getElem_of_mem h3
    have hm' : y.ks[m]? = some i := by rw [List.getElem?_eq_getElem hm, he]
    obtain ⟨ht, B, u⟩ := wf.up
    refine ⟨j, m, y, h1, h2, hm', ?_, nodup_length 40 _ (wf.nodup j y h2) (fun c hc => by have := (wf.kid_lt u h2 hc).1; have := wf.cap; omega)⟩
    intro hi
    obtain ⟨q, hq, hqe⟩ := List.getElem_of_mem hi
    rw [List.getElem_take] at hqe
    have hq' : q < m := by simp at hq; omega
    have := (List.nodup_iff_pairwise_ne.1 (wf.nodup j y h2))
    exact absurd (hqe.trans he.symm) (List.pairwise_iff_getElem.1 this q m (by omega) hm hq')
end Go.Proofs.YtabogkonklplcaaGreatDoor

namespace Go.Proofs.YtabogkonklplcaaGreatDoor
open Go.RowKit
set_option linter.unusedSimpArgs false
set_option linter.unusedVariables false
section
variable {w : World} {F : Nat → Prop} {bd bn cap : Nat} {rn : List RN} {rv : Value} {s : List Nd} {rs : List Sp}
theorem RDocAt.drewN (h : RDocAt w F bd bn cap rn rv s rs) (n : Nat) : RDocAt (w.drewN n) F bd bn cap rn rv s rs :=
  h.keeps (G := fun _ => False) ⟨rfl, rfl, rfl, Nat.le_refl _, fun _ _ _ => rfl⟩ (fun _ _ e => e)
theorem RDocAt.drew (h : RDocAt w F bd bn cap rn rv s rs) : RDocAt w.drew F bd bn cap rn rv s rs := h.drewN 1
end
end Go.Proofs.YtabogkonklplcaaGreatDoor

namespace Go.Proofs.YtabogkonklplcaaGreatDoor
open Go.RowKit
set_option linter.unusedSimpArgs false
set_option linter.unusedVariables false
theorem all_kid {s : List Nd} (wf : WF s) {h : Nat → Nat} {B : Nat} (u : Up s h B) : ∀ (k e p d : Nat), h e < k → p ∈ allF s k e → d ∈ kidsOf s p → d ∈ allF s k e := by
  intro k
  induction k with
  | zero => intro e p d he; omega
  | succ k ih =>
    intro e p d he hp hd
    simp only [allF, List.mem_cons, List.mem_flatMap] at hp ⊢
    rcases hp with rfl | ⟨c, hc, hp⟩
    · obtain ⟨x, hx, hdx⟩ := kidsOf_mem hd
      have hh := (wf.kid_lt u hx hdx).2
      refine .inr ⟨d, hd, ?_⟩
      obtain ⟨k', rfl⟩ : ∃ k', k = k' + 1 := ⟨k - 1, by omega⟩
      simp [allF]
    · obtain ⟨x, hx, hcx⟩ := kidsOf_mem hc
      have hh := (wf.kid_lt u hx hcx).2
      exact .inr ⟨c, hc, ih c p d (by omega) hp hd⟩
theorem all_of_climb {s : List Nd} (wf : WF s) {h : Nat → Nat} {B : Nat} (u : Up s h B) (k e : Nat) (he : h e < k) : ∀ (m d : Nat), d < s.length → climb s m d = (e : Int) → d ∈ allF s k e := by
  intro m
  induction m with
  | zero =>
    intro d hd hc
    have : d = e := by simp [climb] at hc; omega
    subst this
    obtain ⟨k', rfl⟩ : ∃ k', k = k' + 1 := ⟨k - 1, by omega⟩
    simp [allF]
  | succ m ih =>
    intro d hd hc
    have hx : s[d]? = some s[d] := List.getElem?_eq_getElem hd
    generalize s[d] = x at hx
    have e1 : climb s 1 d = x.p := by rw [climb_step (j := 0) (e := d) rfl]; simp [parOf, hx]
    rcases wf.par d x hx with hp | ⟨i, y, hp, hy, hdy⟩
    · exfalso
      have hneg : ∀ k, climb s (k + 1) d < 0 := by
        intro k
        induction k with
        | zero => rw [show (0 + 1) = 1 from rfl, e1]; omega
        | succ k ih2 => simp [climb] at ih2 ⊢; omega
      have := hneg m
      omega
    · rw [hp] at e1
      have e2 := climb_add e1 m
      rw [Nat.add_comm 1 m, hc] at e2
      exact all_kid wf u k e i d he (ih i (List.getElem?_eq_some_iff.1 hy).1 e2.symm) (by rw [kidsOf_eq hy]; exact hdy)
theorem within_cases {s : List Nd} (wf : WF s) {h : Nat → Nat} {B : Nat} (u : Up s h B) (o : Nat) : ∀ (N i : Nat), B + 1 - h i ≤ N → i < s.length → (∃ m, climb s m i = (o : Int)) ∨ Lim (fun c => withinF s c (i : Int) (o : Int)) false := by
  intro N
  induction N with
  | zero => intro i hi; have := u.le i; omega
  | succ N ih =>
    intro i hi hl
    by_cases hio : i = o
    · exact .inl ⟨0, by simp [climb, hio]⟩
    · have hx : s[i]? = some s[i] := List.getElem?_eq_getElem hl
      generalize s[i] = x at hx
      have e1 : climb s 1 i = x.p := by rw [climb_step (j := 0) (e := i) rfl]; simp [parOf, hx]
      rcases wf.par i x hx with hp | ⟨q, y, hp, hy, hdy⟩
      · exact .inr (within_up s i x o hx (by omega) (by rw [hp]; exact within_end s _ _ (by omega)))
      · have hh := (u.par i x hx (by omega)).2
        rw [hp] at hh e1
        simp at hh
        have hb := u.le q
        have hc := u.le i
        rcases ih q (by omega) (List.getElem?_eq_some_iff.1 hy).1 with ⟨m, hm⟩ | hf
        · exact .inl ⟨1 + m, by rw [climb_add e1 m]; exact hm⟩
        · exact .inr (within_up s i x o hx (by omega) (by rw [hp]; exact hf))
theorem holds_no {s : List Nd} (wf : WF s) {h : Nat → Nat} {B : Nat} (u : Up s h B) {k n d : Nat} (hd : d < s.length) (hk : h n < k) (hm : d ∉ allF s k n) : Lim (fun c => withinF s c (d : Int) (n : Int)) false := by
  rcases within_cases wf u n _ d (Nat.le_refl _) hd with ⟨m, hc⟩ | hf
  · exact absurd (all_of_climb wf u k n hk m d hd hc) hm
  · exact hf
end Go.Proofs.YtabogkonklplcaaGreatDoor

namespace Go.Proofs.YtabogkonklplcaaGreatDoor
open Go.RowKit Go.Shelf
set_option linter.unusedSimpArgs false
set_option linter.unusedVariables false
attribute [local go_sem] Oper.semAt_some
set_option maxHeartbeats 400000 in
theorem all_any (bf : Nat) (c : Int) (w : World) : Calls Tryz.prog 90 #[ptr bf, .int .i64 c] w fun e w' =>
    e = .returned (.func (.func 138) #[] #[ptr (w.heap.size + 1), ptr w.heap.size]) ∧ w' = (w.alloc (.cells #[ptr bf] 91)).alloc (.cells #[.int .i64 c] 3) := by
  go_enter Tryz.func90, Tryz.ntmps90
  go_wp2
  go_ret
  exact ⟨by simp, rfl⟩
structure Seen (s : List Nd) (F : Nat → Prop) (bf bn cap : Nat) (pn : List PN) (n b1 b2 b3 l : Nat) (w : World) : Prop where
  forest : PForAt w F bf bn cap pn s
  number : w.cell? ⟨b1, 0, none⟩ = some (.int .i64 n)
  whose : w.cell? ⟨b2, 0, none⟩ = some (ptr bf)
  yield : w.cell? ⟨b3, 0, none⟩ = some (.func (.yield l) #[] #[])
theorem Seen.keeps {s : List Nd} {F O : Nat → Prop} {bf bn cap : Nat} {pn : List PN} {n b1 b2 b3 l : Nat} {w w' : World} (h : Seen s F bf bn cap pn n b1 b2 b3 l w) (hk : Keeps O w w') (hF : ∀ b, F b → ¬ O b) (o1 : ¬ O b1) (o2 : ¬ O b2) (o3 : ¬ O b3) : Seen s F bf bn cap pn n b1 b2 b3 l w' :=
  ⟨h.forest.keeps hk hF, hk.cell h.number o1, hk.cell h.whose o2, hk.cell h.yield o3⟩
set_option maxRecDepth 20000 in
set_option maxHeartbeats 4000000 in
theorem all1_ok {s : List Nd} (wf : WF s) {h : Nat → Nat} {B : Nat} (u : Up s h B) {F : Nat → Prop} {bf bn cap : Nat} {pn : List PN} : ∀ (k n : Nat), n < s.length → h n < k → ∀ (w : World) (O : Nat → Prop) (b1 b2 : Nat), PForAt w F bf bn cap pn s → (∀ b, F b → b < w.heap.size ∧ ¬ O b) →
    w.cell? ⟨b1, 0, none⟩ = some (.int .i64 n) → w.cell? ⟨b2, 0, none⟩ = some (ptr bf) → ¬ O b1 → ¬ O b2 → SeqOk Tryz.prog 138 #[ptr b1, ptr b2] (allF s k n) w O := by
  intro k
  induction k with
  | zero => intro n _ hh; omega
  | succ k ih =>
    intro n hn hh w O b1 b2 hD hF c1 c2 o1 o2 l J Jx O1 w1 hb hO1 hlt mJ mJx hY hJ0
    have hb1 := hb
    have l1 := World.block_lt_of_cell? w _ c1
    have l2 := World.block_lt_of_cell? w _ c2
    have hF1 : ∀ b, F b → ¬ O1 b := fun b hb1 e => (hO1 b e).elim (hF b hb1).2 (fun e => by have := (hF b hb1).1; omega)
    have p1 : ¬ O1 b1 := fun e => (hO1 _ e).elim o1 (fun e => by simp at l1; omega)
    have p2 : ¬ O1 b2 := fun e => (hO1 _ e).elim o2 (fun e => by simp at l2; omega)
    have p3 : ¬ O1 w1.heap.size := fun e => by have := hlt _ e; omega
    have hk0 : Keeps O1 w1 (w1.alloc (.cells #[.func (.yield l) #[] #[]] 83)) := (Keeps.refl _ _).alloc _
    have S0 : Seen s F bf bn cap pn n b1 b2 w1.heap.size l (w1.alloc (.cells #[.func (.yield l) #[] #[]] 83)) :=
      ⟨(hD.below hb).keeps hk0 hF1, hk0.cell ((hb.cell (p := ⟨b1, 0, none⟩) l1).trans c1) p1, hk0.cell ((hb.cell (p := ⟨b2, 0, none⟩) l2).trans c2) p2, cell_of_heap (heap_alloc_new w1 _) 0⟩
    have hJ1 : J [] O1 (w1.alloc (.cells #[.func (.yield l) #[] #[]] 83)) := mJ _ _ _ _ hJ0 ((Keeps.refl _ _).alloc _)
    obtain ⟨fn, tmps, assign, body, hy, hR⟩ := hY 0 [] n O1 _ hJ1 ⟨(kidsOf s n).flatMap (allF s k), rfl⟩ (fun b e => by have := hlt b e; simp; omega)
    have e1 := S0.number
    have e2 := S0.yield
    have SS := hid S0
    have HR := hid hR
    refine callsIn_wide.1 (callsIn_of_wp_marks (F := Fence.wide) (n := 1) Tryz.func138 rfl trivial ?_ rfl)
    clear hR S0 hJ1 hJ0 c1 c2 hb hD
    simp only [Tryz.ntmps138, List.size_toArray, List.length_cons, List.length_nil, Nat.reduceAdd, Nat.reduceSub, Array.replicate_succ, Array.replicate_zero, List.push_toArray, List.append_toArray, List.nil_append, List.cons_append]
    dsimp only [encN] at hy
    gi_wp2
    refine HR.out.mono ?_
    rintro e w2 ⟨O2, st2, (⟨rfl, hJ2⟩ | ⟨rfl, hX2⟩)⟩
    · have S2 := SS.out.keeps st2.keeps hF1 p1 p2 p3
      have f1 := S2.number
      have f2 := S2.whose
      have h0 := S2.forest.nodesCell
      have hx : s[n]? = some s[n] := List.getElem?_eq_getElem hn
      obtain ⟨x, hxx⟩ : ∃ x, x = s[n] := ⟨_, rfl⟩
      rw [← hxx] at hx
      clear hxx
      obtain ⟨r, hr, ho, d0, d1, d2, d3⟩ := S2.forest.look hx
      obtain ⟨sa, sc, hkv⟩ : ∃ a c, r.kv = .slice a x.ks.length c := by
        rcases row_cases ho.kids with ⟨h1, h2⟩ | ⟨g, c, h1⟩
        · exact ⟨none, 0, by rw [h1, h2]⟩
        · exact ⟨_, _, h1⟩
      rw [hkv] at d2
      have S3 := hid S2
      have RO := hid ho
      have RH := hid hr
      have JJ := hid hJ2
      have ST := hid st2
      clear S2 d0 d1 d3 hr ho hJ2 st2 hy HR SS e1 e2
      gi_wp2
      gi_region
      gi_wp2
      have hkid : ∀ c ∈ x.ks, c < s.length ∧ h c < h n := fun c hc => wf.kid_lt u hx hc
      have hkl : x.ks.length ≤ 40 := Nat.le_trans (nodup_length s.length _ (wf.nodup n x hx) (fun c hc => (hkid c hc).1)) wf.cap
      refine wpIn_loop (fun a wr => ∃ (i : Nat) (ds : List Nat) (O' : Nat → Prop) (u5 u21 u22 u23 u24 u25 u26 u32 : Value), i ≤ x.ks.length ∧ a = Act.mk
        #[Value.func (Fn.yield l) #[] #[], ptr b1, ptr b2, Value.pointer (some { block := w1.heap.size, off := 0 }),
          undef, u5, undef, Value.func (Fn.yield l) #[] #[], Value.int IntKind.i64 n, Value.bool true,
          Value.bool false, ptr bf, Value.pointer (some { block := bf, off := 0 }),
          Value.pointer (some { block := bf, off := 0 }), Value.slice (some { block := bn, off := 0 }) s.length cap,
          Value.int IntKind.i64 n, Value.pointer (some { block := bn, off := n * 4 }),
          Value.pointer (some { block := bn, off := n * 4 + 2 }), Value.slice sa x.ks.length sc,
          Value.int IntKind.i64 x.ks.length, Value.int IntKind.i64 i, u21, u22, u23, u24, u25, u26, undef,
          undef, undef, undef, undef, u32] (ds.map mark) ∧
        Stp O1 O' (w1.alloc (.cells #[.func (.yield l) #[] #[]] 83)) wr ∧ J (n :: (x.ks.take i).flatMap (allF s k)) O' wr ∧ Seen s F bf bn cap pn n b1 b2 w1.heap.size l wr ∧ ds.Nodup ∧ (∀ D ∈ ds, (w1.heap.size < D ∧ ¬ O' D) ∧ wr.heap[D]? = some (.deferred (some []))))
        (fun a _ => x.ks.length - (intOf (a.tmps.getD 20 undef)).toNat) ?start ?round
      case start =>
        have st1 := ST.out.drew
        have kd : Keeps (fun _ => False) w2 w2.drew := (Keeps.refl _ _).drew
        refine ⟨0, [], O2, _, _, _, _, _, _, _, _, Nat.zero_le _, rfl, st1, ?_, S3.out.keeps kd (fun _ _ e => e) (fun e => e) (fun e => e) (fun e => e), by simp, by simp⟩
        exact mJ _ _ _ _ JJ.out (kd.mono (fun _ _ e => e.elim))
      case round =>
        rintro a wr ⟨i, ds, O', u5, u21, u22, u23, u24, u25, u26, u32, hi, rfl, st, hJ, hS, hnd, hds⟩
        have hsz1 := hb1.size
        have hszr := st.keeps.size
        simp only [World.size_alloc] at hszr
        have gn : ∀ b, O' b → O1 b ∨ w1.heap.size + 1 ≤ b := fun b e => by have := st.gains b e; simpa using this
        have q1 : ¬ O' b1 := fun e => (gn _ e).elim p1 (fun e => by omega)
        have q2 : ¬ O' b2 := fun e => (gn _ e).elim p2 (fun e => by omega)
        have q3 : ¬ O' w1.heap.size := fun e => (gn _ e).elim p3 (fun e => by omega)
        have qF : ∀ b, F b → ¬ O' b := fun b hb e => (gn _ e).elim (hF1 b hb) (fun e => by have := (hF b hb).1; omega)
        by_cases hil : i < x.ks.length
        · obtain ⟨c, hc⟩ : ∃ c, x.ks[i]? = some c := ⟨_, List.getElem?_eq_getElem hil⟩
          have hcm : c ∈ x.ks := List.mem_of_getElem? hc
          obtain ⟨hcl, hch⟩ := hkid c hcm
          obtain ⟨r2, hr2, ho2, _, _, g2, _⟩ := hS.forest.look hx
          have hrr : r2 = r := by rw [RH.out] at hr2; cases hr2; rfl
          subst hrr
          have hrow := ho2.kids
          rw [hkv] at hrow
          rcases row_cases hrow with ⟨_, hl0⟩ | ⟨g, cc, hv⟩
          · omega
          cases hv
          have cel : wr.cell? ⟨g, i, none⟩ = some (.int .i64 (c : Int)) := by
            rw [hrow.cellAt i (by omega)]
            simp [intsV, hc]
          have hw := hS.whose
          have hilI : (i : Int) < x.ks.length := by omega
          have C : Hid (∀ n, CallsIn Fence.wide n _ _ _ _ _) := hid (fun n => callsIn_wide.2 (all_any bf c wr))
          have HS := hid hS
          have HJ := hid hJ
          have HST := hid st
          have HDS := hid hds
          have HND := hid hnd
          have HC := hid hc
          clear hS hJ hds hnd hc g2 hrow ho2 hr2 st
          gi_wp2_with (refine ⟨trivial, ?_⟩; gi_at_call 90; refine (C.out _).mono ?_; rintro e w3 ⟨rfl, rfl⟩)
          obtain ⟨wb, hwb⟩ : ∃ wb, (wr.alloc (.cells #[ptr bf] 91)).alloc (.cells #[.int .i64 (c : Int)] 3) = wb := ⟨_, rfl⟩
          have hszb : wb.heap.size = wr.heap.size + 2 := by rw [← hwb]; simp
          have hkb : Keeps (fun _ => False) wr wb := by rw [← hwb]; exact ((Keeps.refl _ _).alloc _).alloc _
          have SB : Seen s F bf bn cap pn n b1 b2 w1.heap.size l wb := HS.out.keeps hkb (fun _ _ e => e) (fun e => e) (fun e => e) (fun e => e)
          have cb1 : wb.cell? ⟨wr.heap.size + 1, 0, none⟩ = some (.int .i64 (c : Int)) := by
            have := cell_of_heap (heap_alloc_new (wr.alloc (.cells #[ptr bf] 91)) (.cells #[.int .i64 (c : Int)] 3)) 0
            rw [hwb, World.size_alloc] at this
            exact this
          have cb2 : wb.cell? ⟨wr.heap.size, 0, none⟩ = some (ptr bf) := by
            have := (Keeps.refl (fun _ => False) (wr.alloc (.cells #[ptr bf] 91))).alloc (.cells #[.int .i64 (c : Int)] 3)
            rw [hwb] at this
            exact this.cell (cell_of_heap (heap_alloc_new wr _) 0) (fun e => e)
          have hOr : ∀ b, O' b → b < wr.heap.size := HST.out.there
          rw [hwb]
          have hxs : (n :: (x.ks.take i).flatMap (allF s k)) ++ allF s k c <+: allF s (k + 1) n := by
            refine ⟨(x.ks.drop (i + 1)).flatMap (allF s k), ?_⟩
            simp only [allF, kidsOf_eq hx, List.cons_append]
            congr 1
            have e1 : x.ks.take i ++ c :: x.ks.drop (i + 1) = x.ks := by
              obtain ⟨hil', hce⟩ := List.getElem?_eq_some_iff.1 HC.out
              rw [← hce, ← List.drop_eq_getElem_cons, List.take_append_drop]
            conv => rhs; rw [← e1]
            simp
          refine range_mine (gf := 138) (lb := #[ptr (wr.heap.size + 1), ptr wr.heap.size]) rfl (enters_of Tryz.func138 (by kernel_rfl) rfl) rfl (O := O') (fun b e => by have := hOr b e; omega)
            (ih c hcl (by omega) wb O' _ _ SB.forest (fun b hb => ⟨by have := (hF b hb).1; omega, qF b hb⟩) cb1 cb2 (fun e => by have := hOr _ e; omega) (fun e => by have := hOr _ e; omega))
            (fun pre O3 W => J ((n :: (x.ks.take i).flatMap (allF s k)) ++ pre) O3 W ∧ Stp O' O3 wb W) (fun pre O3 W => Jx ((n :: (x.ks.take i).flatMap (allF s k)) ++ pre) O3 W ∧ Stp O' O3 wb W) ?mI ?mIx ?h0 
            (fun y => Act.mk #[Value.func (Fn.yield l) #[] #[], ptr b1, ptr b2, Value.pointer (some { block := w1.heap.size, off := 0 }), undef, Value.int IntKind.i64 c, Value.int IntKind.i64 y,
                Value.func (Fn.yield l) #[] #[], Value.int IntKind.i64 n, Value.bool true, Value.bool false, ptr bf,
                Value.pointer (some { block := bf, off := 0 }), Value.pointer (some { block := bf, off := 0 }),
                Value.slice (some { block := bn, off := 0 }) s.length cap, Value.int IntKind.i64 n,
                Value.pointer (some { block := bn, off := n * 4 }),
                Value.pointer (some { block := bn, off := n * 4 + 2 }),
                Value.slice (some { block := g, off := 0 }) x.ks.length sc, Value.int IntKind.i64 x.ks.length,
                Value.int IntKind.i64 i, Value.bool true, Value.pointer (some { block := g, off := i }),
                Value.int IntKind.i64 c, ptr bf, Value.int IntKind.i64 c, Value.func (.func 138) #[] #[ptr (wr.heap.size + 1), ptr wr.heap.size], Value.int IntKind.i64 y, undef, undef, undef, undef, u32] []) ?assign ?body ?done ?stop
          case mI =>
            rintro pre O3 X Y ⟨h1, h2⟩ hk
            exact ⟨mJ _ _ _ _ h1 (hk.mono (fun k _ e => ⟨e.1, by have := e.2; omega⟩)), stp_mine (Nat.le_refl _) h2 hk⟩
          case mIx =>
            rintro pre O3 X Y ⟨h1, h2⟩ hk
            exact ⟨mJx _ _ _ _ h1 (hk.mono (fun k _ e => ⟨e.1, by have := e.2; omega⟩)), stp_mine (Nat.le_refl _) h2 hk⟩
          case h0 => exact ⟨by rw [List.append_nil]; exact mJ _ _ _ _ HJ.out (hkb.mono (fun _ _ e => e.elim)), Stp.refl (fun b e => by have := hOr b e; omega)⟩
          case assign =>
            intro m l' y W K hK
            dsimp only [encN]
            gi_wp2
            exact hK
          case body =>
            rintro m l' pre y O3 W hpre hO3 ⟨hJ3, st3⟩
            have f3 := (SB.keeps st3.keeps qF q1 q2 q3).yield
            obtain ⟨fn2, tmps2, assign2, body2, hy2, hR2⟩ := hY (m - 1) _ y O3 W hJ3 (by rw [List.append_assoc]; exact ((List.prefix_append_right_inj _).2 hpre).trans hxs) hO3
            have HR2 : Hid (RoundIn (Fence.wide.inRound l') _ _ _ _ _ _ _ _ _) := hid hR2
            have ST3 := hid st3
            dsimp only [encN] at hy2
            have hdd : ∀ k : Nat, ((Fence.wide.inRound l').depth.isSome = true → 1 ≤ k) := fun k h => by simp [Fence.wide] at h
            clear hR2 hJ3 st3 hxs SB cb1 cb2 HJ HS HDS HND HST C S3 JJ ST RO RH
            gi_wp2_with ((try refine ⟨hdd _, ?_⟩); refine HR2.out.mono ?_; clear HR2; rintro e W4 ⟨O4, st4, (⟨rfl, hJ4⟩ | ⟨rfl, hX4⟩)⟩)
            · exact ⟨O4, st4, by rw [← List.append_assoc]; exact hJ4, ST3.out.trans st4⟩
            · exact ⟨O4, st4, by rw [← List.append_assoc]; exact hX4, ST3.out.trans st4⟩
          case done =>
            rintro O5 W st5 hn5 ⟨hJ5, _⟩ hD5
            have hk5 := st5.keeps
            have S5 := SB.keeps hk5 qF q1 q2 q3
            have stb : Stp O' O' wr wb := by rw [← hwb]; exact (Stp.alloc hOr _).trans (Stp.alloc (fun b e => by have := hOr b e; simp; omega) _)
            have HFIN := hid (And.intro hJ5 (And.intro st5 (And.intro hn5 (And.intro hD5 S5))))
            clear hJ5 st5 hn5 hD5 S5 hk5 SB cb1 cb2
            gi_wp2
            obtain ⟨hJ5, st5, hn5, hD5, S5⟩ := HFIN.out
            refine ⟨⟨i + 1, wb.heap.size :: ds, O5, _, _, _, _, _, _, _, _, hil, rfl, HST.out.trans (stb.trans st5), ?_, S5, ?_, ?_⟩, ?_⟩
            · rw [List.take_add_one, HC.out]
              simpa using hJ5
            · refine List.nodup_cons.2 ⟨fun hm => ?_, HND.out⟩
              have := heap_lt (HDS.out _ hm).2
              omega
            · intro D hm
              rcases List.mem_cons.1 hm with rfl | hm
              · exact ⟨⟨by omega, hn5⟩, hD5⟩
              · obtain ⟨⟨d1, d2⟩, d3⟩ := HDS.out D hm
                have hdl := heap_lt d3
                refine ⟨⟨d1, fun e => (st5.gains D e).elim d2 (fun e => by omega)⟩, ?_⟩
                rw [st5.keeps.block D (by omega) d2, hkb.block D hdl (fun e => e)]
                exact d3
            · show x.ks.length - ((i : Int) + 1).toNat < x.ks.length - ((i : Int)).toNat
              omega
          case stop =>
            rintro O5 pre W hpre st5 hn5 ⟨hX5, _⟩ hD5
            have stb : Stp O' O' wr wb := by rw [← hwb]; exact (Stp.alloc hOr _).trans (Stp.alloc (fun b e => by have := hOr b e; simp; omega) _)
            gi_wp2
            have hds : ∀ D ∈ wb.heap.size :: ds, (w1.heap.size ≤ D ∧ ¬ O5 D) ∧ W.heap[D]? = some (.deferred (some [])) := by
              intro D hm
              rcases List.mem_cons.1 hm with rfl | hm
              · exact ⟨⟨by omega, hn5⟩, hD5⟩
              · obtain ⟨⟨d1, d2⟩, d3⟩ := HDS.out D hm
                have hdl := heap_lt d3
                refine ⟨⟨by omega, fun e => (st5.gains D e).elim d2 (fun e => by omega)⟩, ?_⟩
                rw [st5.keeps.block D (by omega) d2, hkb.block D hdl (fun e => e)]
                exact d3
            have stA := (Stp.alloc hlt (.cells #[.func (.yield l) #[] #[]] 83)).trans (HST.out.trans (stb.trans st5))
            refine leaves_marks (wb.heap.size :: ds) _ (List.nodup_cons.2 ⟨fun hm => ?_, HND.out⟩) (fun D hm => (hds D hm).2) (fun w' hk => ⟨_, results_none rfl _ _ _, ⟨_, rfl⟩, O5, (left_ok stA (fun D hm => (hds D hm).1) hk).1, .inr ⟨_, ?_, mJx _ _ _ _ hX5 (left_ok stA (fun D hm => (hds D hm).1) hk).2⟩⟩)
            · have := heap_lt (HDS.out _ hm).2
              omega
            · exact ((List.prefix_append_right_inj _).2 hpre).trans hxs
        · obtain rfl : i = x.ks.length := by omega
          have hilI : ¬ (x.ks.length : Int) < x.ks.length := by omega
          have HJ := hid hJ
          have HST := hid st
          have HDS := hid hds
          have HND := hid hnd
          clear hJ st hds hnd hS
          gi_wp2
          have stA := (Stp.alloc hlt (.cells #[.func (.yield l) #[] #[]] 83)).trans HST.out
          have hds2 : ∀ D ∈ ds, w1.heap.size ≤ D ∧ ¬ O' D := fun D hm => ⟨by have := (HDS.out D hm).1.1; omega, (HDS.out D hm).1.2⟩
          refine leaves_marks ds _ HND.out (fun D hm => (HDS.out D hm).2) (fun w' hk => ⟨_, results_none rfl _ _ _, ⟨_, rfl⟩, O', (left_ok stA hds2 hk).1, .inl ?_⟩)
          have := mJ _ _ _ _ HJ.out (left_ok stA hds2 hk).2
          rw [List.take_of_length_le (Nat.le_refl _)] at this
          rw [allF, kidsOf_eq hx]
          exact this
    · gi_wp2
      refine leaves_marks [] _ (by simp) (by simp) (fun w' hk => ⟨_, results_none rfl _ _ _, ⟨_, rfl⟩, O2, ?_, .inr ⟨[n], ⟨(kidsOf s n).flatMap (allF s k), rfl⟩, ?_⟩⟩)
      · exact (left_ok ((Stp.alloc hlt _).trans st2) (ds := []) (by simp) hk).1
      · exact mJx _ _ _ _ hX2 (left_ok ((Stp.alloc hlt _).trans st2) (ds := []) (by simp) hk).2
end Go.Proofs.YtabogkonklplcaaGreatDoor

namespace Go.Proofs.YtabogkonklplcaaGreatDoor
open Go.RowKit Go.Shelf
set_option linter.unusedSimpArgs false
set_option linter.unusedVariables false
attribute [local go_sem] Oper.semAt_some
set_option maxRecDepth 20000 in
set_option maxHeartbeats 4000000 in
theorem holds_any {s : List Nd} (wf : WF s) {h : Nat → Nat} {B : Nat} (u : Up s h B) {F : Nat → Prop} {bf bn cap : Nat} {pn : List PN} {w : World} (hD : PForAt w F bf bn cap pn s) (k n o : Nat) (hn : n < s.length) (hk : h n < k) :
    Calls Tryz.prog 173 #[ptr bf, .int .i64 n, .int .i64 o] w fun e w' => e = .returned (.bool (decide (o ∈ allF s k n))) ∧ Below w.heap.size w w' := by
  have HD := hid hD.narrow
  clear hD
  refine callsIn_wide.1 (callsIn_of_wp_marks (F := Fence.wide) (n := 1) Tryz.func173 rfl trivial ?_ rfl)
  simp only [Tryz.ntmps173, List.size_toArray, List.length_cons, List.length_nil, Nat.reduceAdd, Nat.reduceSub, Array.replicate_succ, Array.replicate_zero, List.push_toArray, List.append_toArray, List.nil_append, List.cons_append]
  have C : Hid (∀ (m : Nat) (W : World), CallsIn Fence.wide m _ _ _ _ _) := hid (fun m W => callsIn_wide.2 (all_any bf n W))
  gi_wp2_with (refine ⟨trivial, ?_⟩; gi_at_call 90; refine (C.out _ _).mono ?_; rintro e w3 ⟨rfl, rfl⟩)
  obtain ⟨wb, hwb⟩ : ∃ wb, (((w.alloc (.cells #[.int .i64 (o : Int)] 3)).alloc (.cells #[.bool false] 4)).alloc (.cells #[ptr bf] 91)).alloc (.cells #[.int .i64 (n : Int)] 3) = wb := ⟨_, rfl⟩
  have hszb : wb.heap.size = w.heap.size + 4 := by rw [← hwb]; simp
  have hbb : Below w.heap.size w wb := by rw [← hwb]; exact ((((Below.refl _ w).alloc (Nat.le_refl _) _).alloc (by simp) _).alloc (by simp; omega) _).alloc (by simp; omega) _
  have x0 : wb.heap[w.heap.size]? = some (.cells #[.int .i64 (o : Int)] 3 (0, 0)) := by
    rw [← hwb, Below.heap_alloc _ _ _ (by simp; omega), Below.heap_alloc _ _ _ (by simp; omega), Below.heap_alloc _ _ _ (by simp)]
    exact heap_alloc_new w _
  have x1 : wb.heap[w.heap.size + 1]? = some (.cells #[.bool false] 4 (0, 0)) := by
    rw [← hwb, Below.heap_alloc _ _ _ (by simp), Below.heap_alloc _ _ _ (by simp)]
    have := heap_alloc_new (w.alloc (.cells #[.int .i64 (o : Int)] 3)) (.cells #[.bool false] 4)
    rwa [World.size_alloc] at this
  have x2 : wb.heap[w.heap.size + 2]? = some (.cells #[ptr bf] 91 (0, 0)) := by
    rw [← hwb, Below.heap_alloc _ _ _ (by simp)]
    have := heap_alloc_new ((w.alloc (.cells #[.int .i64 (o : Int)] 3)).alloc (.cells #[.bool false] 4)) (.cells #[ptr bf] 91)
    rwa [World.size_alloc, World.size_alloc] at this
  have x3 : wb.heap[w.heap.size + 3]? = some (.cells #[.int .i64 (n : Int)] 3 (0, 0)) := by
    rw [← hwb]
    have := heap_alloc_new (((w.alloc (.cells #[.int .i64 (o : Int)] 3)).alloc (.cells #[.bool false] 4)).alloc (.cells #[ptr bf] 91)) (.cells #[.int .i64 (n : Int)] 3)
    rwa [World.size_alloc, World.size_alloc, World.size_alloc] at this
  rw [hwb]
  refine range_mine (gf := 138) (lb := #[ptr (w.heap.size + 3), ptr (w.heap.size + 2)]) rfl (enters_of Tryz.func138 (by kernel_rfl) rfl) rfl (O := fun b => b = w.heap.size + 1) (fun b e => by omega)
    (all1_ok wf u k n hn hk wb _ _ _ (HD.out.below hbb) (fun b hb => ⟨by have := hb.2; omega, by have := hb.2; omega⟩) (cell_of_heap x3 0) (cell_of_heap x2 0) (by omega) (by omega))
    (fun pre O3 W => O3 = (fun b => b = w.heap.size + 1) ∧ o ∉ pre ∧ W.heap[w.heap.size + 1]? = some (.cells #[.bool false] 4 (0, 0)) ∧ Stp (fun b => b = w.heap.size + 1) O3 wb W)
    (fun pre O3 W => O3 = (fun b => b = w.heap.size + 1) ∧ o ∈ pre ∧ W.heap[w.heap.size + 1]? = some (.cells #[.bool true] 4 (0, 0)) ∧ Stp (fun b => b = w.heap.size + 1) O3 wb W) ?mI ?mIx ?h0
    (fun y => Act.mk #[ptr bf, Value.int IntKind.i64 n, Value.int IntKind.i64 o, undef, undef,
          Value.pointer (some { block := w.heap.size, off := 0 }),
          Value.pointer (some { block := w.heap.size + 1, off := 0 }), Value.int IntKind.i64 y, ptr bf, Value.int IntKind.i64 n,
          Value.func (Fn.func 138) #[] #[ptr (w.heap.size + 1 + 1 + 1), ptr (w.heap.size + 1 + 1)], Value.int IntKind.i64 y, undef, undef,
          undef] []) ?assign ?body ?done ?stop
  case mI =>
    rintro pre O3 X Y ⟨rfl, h1, h2, h3⟩ hk
    exact ⟨rfl, h1, by rw [hk.block _ (heap_lt h2) (fun e => e.1 rfl)]; exact h2, stp_mine (Nat.le_refl _) h3 hk⟩
  case mIx =>
    rintro pre O3 X Y ⟨rfl, h1, h2, h3⟩ hk
    exact ⟨rfl, h1, by rw [hk.block _ (heap_lt h2) (fun e => e.1 rfl)]; exact h2, stp_mine (Nat.le_refl _) h3 hk⟩
  case h0 => exact ⟨rfl, by simp, x1, Stp.refl (fun b e => by omega)⟩
  case assign =>
    intro m l' y W K hK
    dsimp only [encN]
    gi_wp2
    exact hK
  case body =>
    rintro m l' pre y O3 W hpre hO3 ⟨rfl, h1, h2, h3⟩
    have f0 : W.cell? ⟨w.heap.size, 0, none⟩ = some (.int .i64 (o : Int)) := h3.keeps.cell (cell_of_heap x0 0) (by simp)
    have f1 : W.cell? ⟨w.heap.size + 1, 0, none⟩ = some (.bool false) := cell_of_heap h2 0
    have f2 := frozen_of_heap h2 0
    have H3 := hid h3
    have H2 := hid h2
    have H1 := hid h1
    clear h3 h2 h1 x0 x1 x2 x3 hpre
    by_cases hyo : y = o
    · subst hyo
      gi_wp2
      have hs : Stp (fun b => b = w.heap.size + 1) (fun b => b = w.heap.size + 1) W (W.setCell ⟨w.heap.size + 1, 0, none⟩ (.bool true)) :=
        ⟨(Keeps.refl (fun b => b = w.heap.size + 1) W).setCell (p := ⟨w.heap.size + 1, 0, none⟩) (.inl rfl) _, fun b e => .inl e, fun b e => by have := hO3 b e; simpa [World.setCell] using this⟩
      exact ⟨_, hs, rfl, by simp, by rw [heap_setCell_same W _ 0 _ _ _ H2.out]; rfl, H3.out.trans hs⟩
    · have hyI : ((y : Int) == (o : Int)) = false := by simp; omega
      have hyJ : ¬ (y : Int) = (o : Int) := by omega
      gi_wp2
      exact ⟨_, Stp.refl hO3, rfl, by simp [H1.out]; omega, H2.out, H3.out⟩
  case done =>
    rintro O5 W st5 hn5 ⟨rfl, h1, h2, h3⟩ hD5
    have f1 : W.cell? ⟨w.heap.size + 1, 0, none⟩ = some (.bool false) := cell_of_heap h2 0
    have f2 := frozen_of_heap h2 0
    have H5 := hid (And.intro st5 (And.intro h1 (And.intro h2 hD5)))
    clear st5 hn5 h1 h2 h3 hD5 x0 x1 x2 x3
    gi_wp2
    obtain ⟨st5, h1, h2, hD5⟩ := H5.out
    refine leaves_marks [wb.heap.size] _ (by simp) (fun D hm => ?_) (fun w' hk' => ⟨.bool false, ?_, ?_, ?_⟩)
    · obtain rfl : D = wb.heap.size := by simpa using hm
      rw [Below.heap_setCell _ _ _ _ (by simp; omega)]
      exact hD5
    · have hh := heap_setCell_same W _ 0 _ _ (.bool false) h2
      have hc : w'.cell? ⟨w.heap.size + 1, 0, none⟩ = some (.bool false) := hk'.cell (cell_of_heap hh 0) (by simp; omega)
      simp [results, Tryz.f173, go_sem, hc]
    · rw [decide_eq_false h1]
    · have k1 : Keeps (fun _ => False) w wb := Keeps.of_below hbb
      have k2 : Keeps (fun _ => False) w W := k1.trans (st5.keeps.mono (fun b _ e => .inr (by omega)))
      exact ((k2.setCell (p := ⟨w.heap.size + 1, 0, none⟩) (.inr (by simp)) _).trans (hk'.mono (fun b _ e => .inr (by simp at e; omega)))).below
  case stop =>
    rintro O5 pre W hpre st5 hn5 ⟨rfl, h1, h2, h3⟩ hD5
    have H5 := hid (And.intro st5 (And.intro h1 (And.intro h2 (And.intro hD5 hpre))))
    clear st5 hn5 h1 h2 h3 hD5 x0 x1 x2 x3 hpre
    gi_wp2
    obtain ⟨st5, h1, h2, hD5, hpre⟩ := H5.out
    refine leaves_marks [wb.heap.size] _ (by simp) (fun D hm => ?_) (fun w' hk' => ⟨.bool true, ?_, ?_, ?_⟩)
    · obtain rfl : D = wb.heap.size := by simpa using hm
      exact hD5
    · have hc : w'.cell? ⟨w.heap.size + 1, 0, none⟩ = some (.bool true) := hk'.cell (cell_of_heap h2 0) (by simp; omega)
      simp [results, Tryz.f173, go_sem, hc]
    · rw [decide_eq_true (hpre.subset h1)]
    · have k1 : Keeps (fun _ => False) w wb := Keeps.of_below hbb
      have k2 : Keeps (fun _ => False) w W := k1.trans (st5.keeps.mono (fun b _ e => .inr (by omega)))
      exact (k2.trans (hk'.mono (fun b _ e => .inr (by simp at e; omega)))).below
end Go.Proofs.YtabogkonklplcaaGreatDoor

namespace Go.Proofs.YtabogkonklplcaaGreatDoor
open Go.RowKit Go.Shelf
set_option linter.unusedSimpArgs false
set_option linter.unusedVariables false
attribute [local go_sem] Oper.semAt_some
theorem slice_form {w : World} {e : TypeId} {z n : Nat} {v : Value} {xs : List Value} (h : w.ownsRow 0 e z v n xs) : ∃ a c, v = .slice a n c := by
  rcases row_cases h with ⟨e1, e2⟩ | ⟨g, c, e1⟩
  · exact ⟨none, 0, by rw [e1, e2]⟩
  · exact ⟨_, _, e1⟩
theorem Tryz.infoInt : (Tryz.prog.info? 3).map (fun i => (i.zero, i.size, i.bytes)) = some (some (.int .i64 0), 1, 8) := by kernel_rfl
set_option maxRecDepth 20000 in
set_option maxHeartbeats 2000000 in
theorem appendSeq_any {gf : Nat} {lb : Array Value} (eg : ∀ args w, (callFunc gf args).run Tryz.prog w = .ok (.enter gf args) w) {xs : List Nat} (hlen : xs.length < lots) {w : World}
    (hseq : ∀ (w1 : World) (O : Nat → Prop), Below w.heap.size w w1 → (∀ k, O k → w.heap.size ≤ k) → SeqOk Tryz.prog gf lb xs w1 O) :
    Calls Tryz.prog 137 #[.slice none 0 0, .func (.func gf) #[] lb] w fun e w' => ∃ v, e = .returned v ∧ w'.ownsRow 0 3 1 v xs.length (intsV xs) ∧ Below w.heap.size w w' ∧ (∀ b, v.ownBlock = some b → w.heap.size ≤ b) := by
  obtain ⟨i0, hi, hz0, hz1, hz2⟩ := info_parts Tryz.infoInt
  refine callsIn_wide.1 (callsIn_of_wp_marks (F := Fence.wide) (n := 1) Tryz.func137 rfl trivial ?_ rfl)
  simp only [Tryz.ntmps137, List.size_toArray, List.length_cons, List.length_nil, Nat.reduceAdd, Nat.reduceSub, Array.replicate_succ, Array.replicate_zero, List.push_toArray, List.append_toArray, List.nil_append, List.cons_append]
  gi_wp2
  obtain ⟨wb, hwb⟩ : ∃ wb, w.alloc (.cells #[.slice none 0 0] 24) = wb := ⟨_, rfl⟩
  have hszb : wb.heap.size = w.heap.size + 1 := by rw [← hwb]; simp
  have hbb : Below w.heap.size w wb := by rw [← hwb]; exact (Below.refl _ w).alloc (Nat.le_refl _) _
  have x0 : wb.heap[w.heap.size]? = some (.cells #[.slice none 0 0] 24 (0, 0)) := by rw [← hwb]; exact heap_alloc_new w _
  have hl2 : xs.length < 2000000 := by unfold lots at hlen; exact hlen
  rw [hwb]
  refine range_mine (gf := gf) (lb := lb) rfl eg rfl (O := fun b => b = w.heap.size) (fun b e => by omega) (hseq wb _ hbb (fun k e => by omega))
    (fun pre O3 W => ∃ v, O3 = (fun b => b = w.heap.size ∨ v.ownBlock = some b) ∧ W.heap[w.heap.size]? = some (.cells #[v] 24 (0, 0)) ∧ W.ownsRow 0 3 1 v pre.length (intsV pre) ∧ v.ownBlock ≠ some w.heap.size ∧ Stp (fun b => b = w.heap.size) O3 wb W)
    (fun _ _ _ => False) ?mI ?mIx ?h0
    (fun y => Act.mk #[Value.slice none 0 0, Value.func (Fn.func gf) #[] lb, Value.pointer (some { block := w.heap.size, off := 0 }),
          undef, Value.slice none 0 0, Value.int IntKind.i64 y, Value.func (Fn.func gf) #[] lb, Value.int IntKind.i64 y, undef, undef, undef, undef, undef] []) ?assign ?body ?done ?stop
  case mI =>
    rintro pre O3 X Y ⟨v, rfl, h2, h3, h4, h5⟩ hk
    exact ⟨v, rfl, by rw [hk.block _ (heap_lt h2) (fun e => e.1 (.inl rfl))]; exact h2, hk.row h3 (fun b e e2 => e2.1 (.inr e)), h4, stp_mine (Nat.le_refl _) h5 hk⟩
  case mIx => intro pre O3 X Y h _; exact h
  case h0 =>
    refine ⟨.slice none 0 0, ?_, x0, World.ownsRow_nil _ _ _ _, by simp [Value.ownBlock], ?_⟩
    · funext b; simp [Value.ownBlock]
    · exact Stp.refl (fun b e => by omega)
  case assign =>
    intro m l' y W K hK
    dsimp only [encN]
    gi_wp2
    exact hK
  case body =>
    rintro m l' pre y O3 W hpre hO3 ⟨v, rfl, h2, h3, h4, h5⟩
    have hpl : pre.length + 1 ≤ xs.length := by have := hpre.length_le; simpa using this
    have f1 : W.cell? ⟨w.heap.size, 0, none⟩ = some v := cell_of_heap h2 0
    have hlW : w.heap.size < W.heap.size := heap_lt h2
    have H2 := hid h2
    have H3 := hid h3
    have H4 := hid h4
    have H5 := hid h5
    have HO := hid hO3
    clear h2 h3 h4 h5 hO3 hpre x0
    gi_wp2_with (gi_at_builtin; refine wpListIn_append_own_at _ rfl _ _ 24 rfl 0 3 i0 (.int .i64 0) 1 8 Tryz.underlying24 hi hz0 hz1 hz2 rfl (by decide) v _ _ rfl (H3.out.alloc _) ⟨W.heap.size, 0, none⟩ 1 1 [.int .i64 (y : Int)] rfl rfl (cell_one_new _ _ _) (by simp [Value.oneCell']) (by unfold maxLen; omega) (by omega) (Nat.zero_le _) ?_
                 intro v' w1 hown' hgrow _ hob
                 obtain ⟨g', cap', rfl⟩ := ownsRow_succ hown'
                 have hq1 := (hgrow.block w.heap.size (by simp only [World.size_alloc]; omega) (fun e => H4.out e.symm)).trans ((Below.heap_alloc _ _ _ hlW).trans H2.out)
                 have hc1 : w1.cell? ⟨w.heap.size, 0, none⟩ = some v := cell_of_heap hq1 0
                 have hf1 := frozen_of_heap hq1 0
                 have HQ := hid hq1
                 have HW := hid hown'
                 have HG := hid hgrow
                 have HB := hid hob
                 clear hown' hgrow hob hq1)
    have hgb : v.ownBlock = some g' ∨ g' = W.heap.size + 1 := by
      rcases HB.out with e | e
      · left; rw [← e]; rfl
      · right; simpa [Value.ownBlock] using e
    have hg' : g' ≠ w.heap.size := by
      rcases hgb with e | e
      · rintro rfl; exact H4.out e
      · omega
    have hs : Stp (fun b => b = w.heap.size ∨ v.ownBlock = some b) (fun b => b = w.heap.size ∨ (Value.slice (some ⟨g', 0, none⟩) (pre.length + 1) cap').ownBlock = some b) W (w1.setCell ⟨w.heap.size, 0, none⟩ (.slice (some ⟨g', 0, none⟩) (pre.length + 1) cap')) := by
      refine ⟨?_, ?_, ?_⟩
      · exact (((Keeps.refl (fun b => b = w.heap.size ∨ v.ownBlock = some b) W).alloc _).trans (Keeps.grown HG.out (fun k e => .inl (.inl (.inr e))))).setCell (p := ⟨w.heap.size, 0, none⟩) (.inl (.inl rfl)) _
      · rintro b (e | e)
        · exact .inl (.inl e)
        · have e' : g' = b := by simpa [Value.ownBlock] using e
          subst e'
          rcases hgb with e | e
          · exact .inl (.inr e)
          · exact .inr (by omega)
      · have hz : (w1.setCell ⟨w.heap.size, 0, none⟩ (.slice (some ⟨g', 0, none⟩) (pre.length + 1) cap')).heap.size = w1.heap.size := by simp
        rintro b (e | e)
        · rw [hz, e]; exact heap_lt HQ.out
        · have e' : g' = b := by simpa [Value.ownBlock] using e
          subst e'
          rw [hz]
          exact (HW.out.lt g' rfl).2
    refine ⟨_, hs, _, rfl, by rw [heap_setCell_same w1 _ 0 _ _ _ HQ.out]; rfl, ?_, by simpa [Value.ownBlock] using hg', H5.out.trans hs⟩
    rw [List.length_append]
    have := row_setCell_other HW.out (p := ⟨w.heap.size, 0, none⟩) (by simpa [Value.ownBlock] using hg') (.slice (some ⟨g', 0, none⟩) (pre.length + 1) cap')
    simpa [intsV] using this
  case done =>
    rintro O5 W st5 hn5 ⟨v, rfl, h2, h3, h4, h5⟩ hD5
    obtain ⟨sa, sc, hkv⟩ : ∃ a c, v = .slice a xs.length c := by
      rcases row_cases h3 with ⟨e1, e2⟩ | ⟨g, c, e1⟩
      · exact ⟨none, 0, by rw [e1, e2]⟩
      · exact ⟨_, _, e1⟩
    subst hkv
    have f1 : W.cell? ⟨w.heap.size, 0, none⟩ = some (.slice sa xs.length sc) := cell_of_heap h2 0
    have H := hid (And.intro st5 (And.intro hn5 (And.intro h3 (And.intro h4 hD5))))
    have HZ := hid hszb
    clear st5 hn5 h2 h3 h4 h5 hD5 x0 hszb
    gi_wp2
    obtain ⟨st5, hn5, h3, h4, hD5⟩ := H.out
    have hszb := HZ.out
    refine leaves_marks [wb.heap.size] _ (by simp) (fun D hm => ?_) (fun w' hk' => ⟨.slice sa xs.length sc, ?_, _, rfl, ?_, ?_, ?_⟩)
    · obtain rfl : D = wb.heap.size := by simpa using hm
      exact hD5
    · exact results_tmp (fn := Tryz.f137) (t := 4) rfl _ _ _
    · refine hk'.row h3 (fun b e e2 => ?_)
      have : b = wb.heap.size := by simpa using e2
      subst this
      exact hn5 (.inr e)
    · have k1 : Keeps (fun _ => False) w wb := Keeps.of_below hbb
      have k2 : Keeps (fun _ => False) w W := k1.trans (st5.keeps.mono (fun b _ e => .inr (by omega)))
      exact (k2.trans (hk'.mono (fun b _ e => .inr (by simp at e; omega)))).below
    · intro b e
      rcases st5.gains b (.inr e) with e1 | e1
      · omega
      · omega
  case stop =>
    rintro O5 pre W hpre st5 hn5 h hD5
    exact h.elim
set_option maxHeartbeats 400000 in
theorem collect_any {gf : Nat} {lb : Array Value} (eg : ∀ args w, (callFunc gf args).run Tryz.prog w = .ok (.enter gf args) w) {xs : List Nat} (hlen : xs.length < lots) {w : World}
    (hseq : ∀ (w1 : World) (O : Nat → Prop), Below w.heap.size w w1 → (∀ k, O k → w.heap.size ≤ k) → SeqOk Tryz.prog gf lb xs w1 O) :
    Calls Tryz.prog 89 #[.func (.func gf) #[] lb] w fun e w' => ∃ a c, e = .returned (.slice a xs.length c) ∧ w'.ownsRow 0 3 1 (.slice a xs.length c) xs.length (intsV xs) ∧ Below w.heap.size w w' ∧ (∀ b, (Value.slice a xs.length c).ownBlock = some b → w.heap.size ≤ b) := by
  have C := hid (appendSeq_any eg hlen hseq)
  clear hseq eg
  go_enter Tryz.func89, Tryz.ntmps89
  go_wp2_with (go_at_call 137; refine C.out.mono ?_; rintro e w1 ⟨v, rfl, h1, h2, h3⟩; obtain ⟨sa, sc, rfl⟩ := slice_form h1)
  go_ret
  exact ⟨_, _, rfl, h1, h2, h3⟩
end Go.Proofs.YtabogkonklplcaaGreatDoor

namespace Go.Proofs.YtabogkonklplcaaGreatDoor
open Go.RowKit
set_option linter.unusedSimpArgs false
set_option linter.unusedVariables false
def sizeN (x : Nd) : Nat := if x.t = true then x.cs.length else x.ks.length
theorem sizeN_text {x : Nd} (h : x.t = true) : sizeN x = x.cs.length := by simp [sizeN, h]
theorem sizeN_elem {x : Nd} (h : x.t = false) : sizeN x = x.ks.length := by simp [sizeN, h]
def IsTop (s : List Nd) (n t : Nat) : Prop := (∃ m, climb s m n = (t : Int)) ∧ ∃ x, s[t]? = some x ∧ x.p = -1
def TopPost (s : List Nd) (n : Nat) (w : World) (e : Ending) (w' : World) : Prop := (∃ t : Nat, e = .returned (.int .i64 t) ∧ IsTop s n t) ∧ w' = w
def TopInv (s : List Nd) (n : Nat) (w : World) (a : Value) (wr : World) : Prop := wr = w ∧ ∃ (c m : Nat), a = .int .i64 c ∧ c < s.length ∧ climb s m n = (c : Int)
section
variable {w : World} {F : Nat → Prop} {bd bn cap : Nat} {rn : List RN} {rv : Value} {s : List Nd} {rs : List Sp}
abbrev pf (w : World) (n k : Int) : World := (w.alloc (.cells #[.int .i64 n, .int .i64 k] 37)).alloc (.cells #[.int .i64 0, .int .i64 0] 32)
end
end Go.Proofs.YtabogkonklplcaaGreatDoor

namespace Go.Proofs.YtabogkonklplcaaGreatDoor
open Go.RowKit
set_option linter.unusedSimpArgs false
set_option linter.unusedVariables false
section
variable {F : Nat → Prop} {bd bn cap : Nat} {rn : List RN} {rv : Value} {s : List Nd} {rs : List Sp}
variable {w : World}
end
end Go.Proofs.YtabogkonklplcaaGreatDoor

namespace Go.Proofs.YtabogkonklplcaaGreatDoor
open Go.RowKit
set_option linter.unusedSimpArgs false
set_option linter.unusedVariables false
def plV (l : List (Nat × Nat)) : List Value := l.flatMap fun p => [.int .i64 p.1, .int .i64 p.2]
@[simp] theorem plV_length (l : List (Nat × Nat)) : (plV l).length = 2 * l.length := by
  induction l with
  | nil => rfl
  | cons a l ih => simp [plV] at ih ⊢; omega
@[simp] theorem plV_append (l m : List (Nat × Nat)) : plV (l ++ m) = plV l ++ plV m := by simp [plV]
theorem below_drewN {B : Nat} {a w : World} (h : Below B a w) (n : Nat) : Below B a (w.drewN n) := ⟨h.os, h.tape, h.output, h.size, h.block⟩
def IsWhere (l : List (Nat × Nat)) (p : Nat × Nat) (q : Int) : Prop := (∃ m : Nat, q = m ∧ l[m]? = some p ∧ p ∉ l.take m) ∨ (q = -1 ∧ p ∉ l)
end Go.Proofs.YtabogkonklplcaaGreatDoor

namespace Go.Proofs.YtabogkonklplcaaGreatDoor
open Go.RowKit
set_option linter.unusedSimpArgs false
set_option linter.unusedVariables false
def upTo (n : Nat) (ks : List Nat) (f : Nat → List (Nat × Nat)) (m : Nat) : List (Nat × Nat) :=
  (List.range m).flatMap fun i => (n, i) :: (match ks[i]? with | some c => f c | none => [])
theorem upTo_succ_none {n m : Nat} {ks : List Nat} {f : Nat → List (Nat × Nat)} (h : ks[m]? = none) : upTo n ks f (m + 1) = upTo n ks f m ++ [(n, m)] := by
  simp [upTo, List.range_succ, h]
def sizeAt (s : List Nd) (n : Nat) : Nat := match s[n]? with | some x => sizeN x | none => 0
theorem sizeAt_eq {s : List Nd} {n : Nat} {x : Nd} (h : s[n]? = some x) : sizeAt s n = sizeN x := by simp [sizeAt, h]
def plF (s : List Nd) : Nat → Nat → List (Nat × Nat)
  | 0, _ => []
  | k + 1, n => upTo n (kidsOf s n) (plF s k) (sizeAt s n + 1)
theorem kids_le {s : List Nd} (wf : WF s) {n : Nat} {x : Nd} (hx : s[n]? = some x) : x.ks.length ≤ 40 := by
  obtain ⟨h, B, u⟩ := wf.up
  exact Nat.le_trans (nodup_length s.length _ (wf.nodup n x hx) (fun c hc => (wf.kid_lt u hx hc).1)) wf.cap
theorem sizeN_le {s : List Nd} (wf : WF s) {n : Nat} {x : Nd} (hx : s[n]? = some x) : sizeN x ≤ 40 := by
  unfold sizeN
  split
  · have := (wf.chars n x hx).1; omega
  · exact kids_le wf hx
section
variable {F : Nat → Prop} {bd bn cap : Nat} {rn : List RN} {rv : Value} {s : List Nd} {rs : List Sp}
end
end Go.Proofs.YtabogkonklplcaaGreatDoor

namespace Go.Proofs.YtabogkonklplcaaGreatDoor
set_option linter.unusedSimpArgs false
set_option linter.unusedVariables false
abbrev Mvf : Type := Int → Int → Int × Int
def shiftF (n o d : Int) : Mvf := fun a b => if a = n ∧ o < b then (a, b + d) else (a, b)
def gatherF (l : List Nat) (p q : Int) (g : Mvf) : Mvf := fun a b => if (l.map Int.ofNat).contains a then (p, q) else g a b
def resizeF (n o t g : Int) : Mvf := fun a b => if a = n ∧ o < b ∧ b ≤ o + t then (n, o) else shiftF n (o + t) (g - t) a b
def carryF (n o fr : Int) (g : Mvf) : Mvf := fun a b => if a = n ∧ o < b then (fr, b - o) else g a b
def mvSp (f : Mvf) (x : Sp) : Sp := ⟨(f x.a x.b).1, (f x.a x.b).2, (f x.c x.d).1, (f x.c x.d).2⟩
def PlOk (s : List Nd) (a b : Int) : Prop := ∃ n k : Nat, a = (n : Int) ∧ b = (k : Int) ∧ n < s.length ∧ k ≤ sizeAt s n
def SpOk (s : List Nd) (x : Sp) : Prop := PlOk s x.a x.b ∧ PlOk s x.c x.d
theorem sizeAt_set {s : List Nd} {i : Nat} (hi : i < s.length) (x : Nd) (n : Nat) : sizeAt (s.set i x) n = if n = i then sizeN x else sizeAt s n := by
  unfold sizeAt
  by_cases h : n = i
  · subst h
    simp [hi]
  · rw [List.getElem?_set_ne (fun e => h e.symm), if_neg h]
theorem sizeAt_push {s : List Nd} (x : Nd) {n : Nat} (hn : n < s.length) : sizeAt (s ++ [x]) n = sizeAt s n := by
  unfold sizeAt
  rw [List.getElem?_append_left hn]
theorem PlOk.push {s : List Nd} {a b : Int} (h : PlOk s a b) (x : Nd) : PlOk (s ++ [x]) a b := by
  obtain ⟨n, k, rfl, rfl, hn, hk⟩ := h
  exact ⟨n, k, rfl, rfl, by simp; omega, by rw [sizeAt_push x hn]; exact hk⟩
theorem PlOk.insert {s : List Nd} {i j k : Nat} {x y : Nd} (hx : s[i]? = some x) (hy : s[j]? = some y) (hij : i ≠ j) (ht : x.t = false) (hk : k ≤ x.ks.length) {a b : Int} (h : PlOk s a b) :
    PlOk ((s.set i { x with ks := x.ks.take k ++ j :: x.ks.drop k }).set j { y with p := i }) (shiftF i k 1 a b).1 (shiftF i k 1 a b).2 := by
  obtain ⟨n, m, rfl, rfl, hn, hm⟩ := h
  have hi : i < s.length := (List.getElem?_eq_some_iff.1 hx).1
  have hj : j < s.length := (List.getElem?_eq_some_iff.1 hy).1
  have hsz : sizeAt ((s.set i { x with ks := x.ks.take k ++ j :: x.ks.drop k }).set j { y with p := i }) n = if n = i then sizeAt s n + 1 else sizeAt s n := by
    rw [sizeAt_set (by simpa using hj), sizeAt_set hi]
    by_cases h1 : n = j
    · subst h1
      rw [if_pos rfl, if_neg (fun e => hij e.symm), sizeAt_eq hy]
      rfl
    · rw [if_neg h1]
      by_cases h2 : n = i
      · subst h2
        rw [if_pos rfl, if_pos rfl, sizeAt_eq hx, sizeN_elem ht, sizeN_elem (x := { x with ks := x.ks.take k ++ j :: x.ks.drop k }) ht]
        simp; omega
      · rw [if_neg h2, if_neg h2]
  unfold shiftF
  by_cases hc : (n : Int) = (i : Int) ∧ (k : Int) < (m : Int)
  · rw [if_pos hc]
    refine ⟨n, m + 1, rfl, by simp, by simpa using hn, ?_⟩
    rw [hsz, if_pos (by omega)]; omega
  · rw [if_neg hc]
    refine ⟨n, m, rfl, rfl, by simpa using hn, ?_⟩
    rw [hsz]; split <;> omega
theorem PlOk.remove {s : List Nd} {i j m : Nat} {x y : Nd} (hx : s[i]? = some x) (hy : s[j]? = some y) (hij : i ≠ j) (ht : y.t = false) (hm : m < y.ks.length) (l : List Nat) (hjl : j ∉ l) {a b : Int} (h : PlOk s a b) :
    PlOk ((s.set j { y with ks := y.ks.take m ++ y.ks.drop (m + 1) }).set i { x with p := -1 }) (gatherF l j m (shiftF j m (-1)) a b).1 (gatherF l j m (shiftF j m (-1)) a b).2 := by
  obtain ⟨n, o, rfl, rfl, hn, ho⟩ := h
  have hi : i < s.length := (List.getElem?_eq_some_iff.1 hx).1
  have hj : j < s.length := (List.getElem?_eq_some_iff.1 hy).1
  have hsz : ∀ n, sizeAt ((s.set j { y with ks := y.ks.take m ++ y.ks.drop (m + 1) }).set i { x with p := -1 }) n = if n = j then sizeAt s n - 1 else sizeAt s n := by
    intro n
    rw [sizeAt_set (by simpa using hi), sizeAt_set hj]
    by_cases h1 : n = i
    · subst h1
      rw [if_pos rfl, if_neg hij, sizeAt_eq hx]
      rfl
    · rw [if_neg h1]
      by_cases h2 : n = j
      · subst h2
        rw [if_pos rfl, if_pos rfl, sizeAt_eq hy, sizeN_elem ht, sizeN_elem (x := { y with ks := y.ks.take m ++ y.ks.drop (m + 1) }) ht]
        simp; omega
      · rw [if_neg h2, if_neg h2]
  have hsj : sizeAt s j = y.ks.length := by rw [sizeAt_eq hy, sizeN_elem ht]
  unfold gatherF
  split
  · exact ⟨j, m, rfl, rfl, by simpa using hj, by rw [hsz, if_pos rfl, hsj]; omega⟩
  · unfold shiftF
    by_cases hc : (n : Int) = (j : Int) ∧ (m : Int) < (o : Int)
    · rw [if_pos hc]
      obtain rfl : n = j := by omega
      exact ⟨n, o - 1, rfl, by show (o : Int) + -1 = _; omega, by simpa using hn, by rw [hsz, if_pos rfl]; omega⟩
    · rw [if_neg hc]
      refine ⟨n, o, rfl, rfl, by simpa using hn, ?_⟩
      rw [hsz]
      split
      · rename_i e
        subst e
        omega
      · exact ho
theorem PlOk.replace {s : List Nd} {i o c : Nat} {x : Nd} {cs : List ByteArray} {g : Nat} (hx : s[i]? = some x) (ht : x.t = true) (hc : o + c ≤ x.cs.length) (hcs : cs.length = x.cs.length - c + g) {a b : Int} (h : PlOk s a b) :
    PlOk (s.set i { x with cs := cs }) (resizeF i o c g a b).1 (resizeF i o c g a b).2 := by
  obtain ⟨n, m, rfl, rfl, hn, hm⟩ := h
  have hi : i < s.length := (List.getElem?_eq_some_iff.1 hx).1
  have hsi : sizeAt s i = x.cs.length := by rw [sizeAt_eq hx, sizeN_text ht]
  have hsz : ∀ n, sizeAt (s.set i { x with cs := cs }) n = if n = i then cs.length else sizeAt s n := by
    intro n
    rw [sizeAt_set hi, sizeN_text (x := { x with cs := cs }) ht]
  unfold resizeF
  split
  · exact ⟨i, o, rfl, rfl, by simpa using hi, by rw [hsz, if_pos rfl]; omega⟩
  · rename_i h1
    unfold shiftF
    split
    · rename_i h2
      obtain rfl : n = i := by omega
      exact ⟨n, m - c + g, rfl, by show (m : Int) + _ = _; omega, by simpa using hn, by rw [hsz, if_pos rfl]; omega⟩
    · rename_i h2
      refine ⟨n, m, rfl, rfl, by simpa using hn, ?_⟩
      rw [hsz]
      split
      · rename_i e
        subst e
        have : m ≤ o := by
          rcases Nat.lt_or_ge o m with h | h
          · exfalso
            have h3 : ¬ ((m : Int) ≤ (o : Int) + (c : Int)) := fun h4 => h1 ⟨rfl, by omega, h4⟩
            exact h2 ⟨rfl, by omega⟩
          · exact h
        omega
      · exact hm
theorem SpOk.mv {s s' : List Nd} {f : Mvf} (hf : ∀ a b : Int, PlOk s a b → PlOk s' (f a b).1 (f a b).2) {x : Sp} (h : SpOk s x) : SpOk s' (mvSp f x) := ⟨hf _ _ h.1, hf _ _ h.2⟩
theorem PlOk.small {s : List Nd} (wf : WF s) {a b : Int} (h : PlOk s a b) : 0 ≤ b ∧ b ≤ 40 := by
  obtain ⟨n, k, rfl, rfl, hn, hk⟩ := h
  have hx := List.getElem?_eq_getElem hn
  rw [sizeAt_eq hx] at hk
  have := sizeN_le wf hx
  omega
end Go.Proofs.YtabogkonklplcaaGreatDoor

namespace Go.Proofs.YtabogkonklplcaaGreatDoor
open Go.RowKit
set_option linter.unusedSimpArgs false
set_option linter.unusedVariables false
def SrcOk (w : World) (size : Nat) (xv : Value) (m : Nat) (news : List Value) : Prop :=
  (xv = .slice none 0 0 ∧ m = 0 ∧ news = []) ∨ ∃ ad c, xv = .slice (some ad) m c ∧ news.length = m * size ∧ (∀ j u, news[j]? = some u → w.cell? (ad.add j) = some u) ∧ ∀ u ∈ news, u.oneCell' = true
theorem wp_append_any {P : Program} (w : World) {o : Oper} {a : Act} {K : Act → World → Prop} {Q : Exit → Act → World → Prop} (s x : Operand) (t : TypeId)
    (ho : o.op = .call { callee := .builtin .append, args := #[s, x], argTypes := #[t, t] })
    (base : Nat) (e : TypeId) (i : TypeInfo) (z : Value) (size bytes : Nat) (ht : P.underlying t = some (.slice e)) (hi : P.info? e = some i) (hz : i.zero = some z)
    (hsize : i.size = size) (hby : i.bytes = bytes) (hzs : z.cells.size = size) (hsz : 0 < size)
    (v : Value) (n : Nat) (xs : List Value) (hs : a.eval s = v) (hown : w.ownsRow base e size v n xs)
    (xv : Value) (m : Nat) (news : List Value) (hx : a.eval x = xv) (hsrc : SrcOk w size xv m news)
    (h63 : n + m ≤ maxLen) (hbytes : (n + m) * bytes ≤ 140737488355328) (hbase : base ≤ w.heap.size)
    (h : ∀ v' w', w'.ownsRow base e size v' (n + m) (xs ++ news) → Below base w w' → K (a.put o.dst v') w') : o.wp P a w K Q := by
  rcases hsrc with ⟨rfl, rfl, rfl⟩ | ⟨ad, c, rfl, hl, hn, h1⟩
  · have hrun := run_append_owned_none (P := P) (w := w) base t o.type e i size ht hi v n xs hown
    unfold Oper.wp
    simp [execOp, ho, resolve, invoke, builtin, hs, hx, hrun, Result.andThen]
    exact h v w (by simpa using hown) (Below.refl _ w)
  · exact wp_append_own w s x t ho base e i z size bytes ht hi hz hsize hby hzs hsz v n xs hs hown ad m c news hx hl hn h1 h63 hbytes hbase
      (fun v' w' h2 h3 _ => h v' w' h2 ((Below.refl base w).grown h3 hbase (fun k e => (hown.lt k e).1)))
theorem wpList_append_any {P : Program} (w : World) {ops : Array Oper} {rest : List Oper} {o : Oper} {a : Act} {Q : Exit → Act → World → Prop} (hgd : o.guard = none) (s x : Operand) (t : TypeId)
    (ho : o.op = .call { callee := .builtin .append, args := #[s, x], argTypes := #[t, t] })
    (base : Nat) (e : TypeId) (i : TypeInfo) (z : Value) (size bytes : Nat) (ht : P.underlying t = some (.slice e)) (hi : P.info? e = some i) (hz : i.zero = some z)
    (hsize : i.size = size) (hby : i.bytes = bytes) (hzs : z.cells.size = size) (hsz : 0 < size)
    (v : Value) (n : Nat) (xs : List Value) (hs : a.eval s = v) (hown : w.ownsRow base e size v n xs)
    (xv : Value) (m : Nat) (news : List Value) (hx : a.eval x = xv) (hsrc : SrcOk w size xv m news)
    (h63 : n + m ≤ maxLen) (hbytes : (n + m) * bytes ≤ 140737488355328) (hbase : base ≤ w.heap.size)
    (h : ∀ v' w', w'.ownsRow base e size v' (n + m) (xs ++ news) → Below base w w' → wpList P ops Q rest (a.put o.dst v') w') : wpList P ops Q (o :: rest) a w :=
  wpList_plain hgd fun _ hK => wp_append_any w s x t ho base e i z size bytes ht hi hz hsize hby hzs hsz v n xs hs hown xv m news hx hsrc h63 hbytes hbase fun v' w' h2 h3 => hK _ _ (h v' w' h2 h3)
end Go.Proofs.YtabogkonklplcaaGreatDoor

namespace Go.Proofs.YtabogkonklplcaaGreatDoor
open Go.RowKit
set_option linter.unusedSimpArgs false
set_option linter.unusedVariables false
section
variable {w : World} {F : Nat → Prop} {bd bn cap : Nat} {rn : List RN} {rv : Value} {s : List Nd} {rs : List Sp}
theorem RDocAt.newChars (h : RDocAt w F bd bn cap rn rv s rs) {N i : Nat} {x : Nd} {v' : Value} {cs' : List ByteArray} (hF : ∀ b, F b → b < N) (hx : s[i]? = some x) (hrow : w.ownsRow N 9 1 v' cs'.length (strsV cs')) :
    ∃ rn2, RDocAt (w.setCell ⟨bn, i * 4 + 1, none⟩ v') (fun b => F b ∨ N ≤ b) bd bn cap rn2 rv (s.set i { x with cs := cs' }) rs := by
  obtain ⟨r, hr, ho⟩ := h.raw hx
  have hw := h.wider (G := fun b => F b ∨ N ≤ b) (fun b e => .inl e)
  have ho2 := hw.ok i r x hr hx
  have hb := fun b e => (hrow.lt b e).1
  have h0 : w.ownsRow 0 9 1 v' cs'.length (strsV cs') := by
    refine ⟨hrow.1, ?_⟩
    rcases hrow.2 with e | ⟨g, c, cur, e, _, q⟩
    · exact .inl e
    · exact .inr ⟨g, c, cur, e, Nat.zero_le _, q⟩
  refine ⟨_, hw.setNode (r' := { r with cv := v' }) hr hx 1 (by omega) v' rfl ⟨ho2.t, ho2.p, h0, ho2.kids, fun b e => ?_, ho2.apartK⟩⟩
  have h1 := hb b e
  have h2 := hF _ h.Fd
  have h3 := hF _ h.Fn
  refine ⟨.inr h1, by omega, by omega, fun e2 => ?_⟩
  have h4 := hF _ (h.apart b e2).1
  omega
end
end Go.Proofs.YtabogkonklplcaaGreatDoor

namespace Go.Proofs.YtabogkonklplcaaGreatDoor
open Go.RowKit
set_option linter.unusedSimpArgs false
set_option linter.unusedVariables false
section
variable {w : World} {F : Nat → Prop} {bd bn cap : Nat} {rn : List RN} {rv : Value} {s : List Nd} {rs : List Sp}
end
end Go.Proofs.YtabogkonklplcaaGreatDoor

namespace Go.Proofs.YtabogkonklplcaaGreatDoor
open Go.RowKit
set_option linter.unusedSimpArgs false
set_option linter.unusedVariables false
section
variable {w : World} {F : Nat → Prop} {bd bn cap : Nat} {rn : List RN} {rv : Value} {s : List Nd} {rs : List Sp}
end
end Go.Proofs.YtabogkonklplcaaGreatDoor

namespace Go.Proofs.YtabogkonklplcaaGreatDoor
open Go.RowKit
set_option linter.unusedSimpArgs false
set_option linter.unusedVariables false
theorem IsTop.lt {s : List Nd} {n t : Nat} (h : IsTop s n t) : t < s.length := by
  obtain ⟨_, x, hx, _⟩ := h
  exact (List.getElem?_eq_some_iff.1 hx).1
section
variable {F : Nat → Prop} {bd bn cap : Nat} {rn : List RN} {rv : Value} {s : List Nd} {rs : List Sp}
abbrev two (w : World) (a b : Nat × Nat) : World := (w.alloc (.cells #[.int .i64 a.1, .int .i64 a.2] 37)).alloc (.cells #[.int .i64 b.1, .int .i64 b.2] 37)
end
end Go.Proofs.YtabogkonklplcaaGreatDoor

namespace Go.Proofs.YtabogkonklplcaaGreatDoor
open Go.RowKit
set_option linter.unusedSimpArgs false
set_option linter.unusedVariables false
section
variable {w : World} {F : Nat → Prop} {bd bn cap : Nat} {rn : List RN} {rv : Value} {s : List Nd} {rs : List Sp}
end
end Go.Proofs.YtabogkonklplcaaGreatDoor

namespace Go.Proofs.YtabogkonklplcaaGreatDoor
set_option linter.unusedSimpArgs false
set_option linter.unusedVariables false
abbrev PP : Type := (Nat × Nat) × List Nat
def ppB (n : Nat) (ks : List Nat) (f : Nat → List PP) (i : Nat) : List PP :=
  ((n, i), [2 * i]) :: (match ks[i]? with | some c => (f c).map (fun e => (e.1, (2 * i + 1) :: e.2)) | none => [])
def ppF (s : List Nd) : Nat → Nat → List PP
  | 0, _ => []
  | k + 1, n => (List.range (sizeAt s n + 1)).flatMap (ppB n (kidsOf s n) (ppF s k))
theorem pp_fst (s : List Nd) : ∀ (k n : Nat), (ppF s k n).map Prod.fst = plF s k n := by
  intro k
  induction k with
  | zero => intro n; rfl
  | succ k ih =>
    intro n
    simp only [ppF, plF, upTo, List.map_flatMap]
    congr 1
    funext i
    unfold ppB
    cases (kidsOf s n)[i]? with
    | none => rfl
    | some c =>
      simp only [List.map_cons, List.map_map]
      rw [← ih c]
      rfl
theorem ppB_head {n i : Nat} {ks : List Nat} {f : Nat → List PP} {e : PP} (h : e ∈ ppB n ks f i) : ∃ a l, e.2 = a :: l ∧ (a = 2 * i ∨ a = 2 * i + 1) := by
  unfold ppB at h
  rcases List.mem_cons.1 h with rfl | h
  · exact ⟨_, _, rfl, .inl rfl⟩
  · split at h
    · obtain ⟨e', _, rfl⟩ := List.mem_map.1 h
      exact ⟨_, _, rfl, .inr rfl⟩
    · simp at h
abbrev lexN : List Nat → List Nat → Prop := List.Lex (· < ·)
theorem pp_sorted (s : List Nd) : ∀ (k n : Nat), (ppF s k n).Pairwise (fun a b => lexN a.2 b.2) := by
  intro k
  induction k with
  | zero => intro n; simp [ppF]
  | succ k ih =>
    intro n
    rw [ppF, List.pairwise_flatMap]
    refine ⟨fun i _ => ?_, ?_⟩
    · unfold ppB
      rw [List.pairwise_cons]
      constructor
      · intro e he
        split at he
        · obtain ⟨e', _, rfl⟩ := List.mem_map.1 he
          exact .rel (by omega)
        · simp at he
      · split
        · rw [List.pairwise_map]
          exact (ih _).imp (fun h => .cons h)
        · exact List.Pairwise.nil
    · refine List.pairwise_lt_range.imp ?_
      intro i j hij x hx y hy
      obtain ⟨a, l, ea, ha⟩ := ppB_head hx
      obtain ⟨b, m, eb, hb⟩ := ppB_head hy
      rw [ea, eb]
      exact .rel (by omega)
theorem pp_here {s : List Nd} {k n i : Nat} (h : i ≤ sizeAt s n) : ((n, i), [2 * i]) ∈ ppF s (k + 1) n := by
  rw [ppF, List.mem_flatMap]
  exact ⟨i, List.mem_range.2 (by omega), by unfold ppB; exact List.mem_cons_self⟩
theorem pp_down {s : List Nd} {k n j c : Nat} {e : PP} (hj : (kidsOf s n)[j]? = some c) (hl : j ≤ sizeAt s n) (h : e ∈ ppF s k c) : (e.1, (2 * j + 1) :: e.2) ∈ ppF s (k + 1) n := by
  rw [ppF, List.mem_flatMap]
  refine ⟨j, List.mem_range.2 (by omega), ?_⟩
  unfold ppB
  rw [hj]
  exact List.mem_cons_of_mem _ (List.mem_map.2 ⟨e, h, rfl⟩)
theorem pl_node {s : List Nd} : ∀ (k n : Nat) (p : Nat × Nat), p ∈ plF s k n → p.1 ∈ allF s k n := by
  intro k
  induction k with
  | zero => intro n p h; simp [plF] at h
  | succ k ih =>
    intro n p h
    simp only [plF, upTo, List.mem_flatMap] at h
    obtain ⟨i, _, h⟩ := h
    rw [allF, List.mem_cons]
    rcases List.mem_cons.1 h with rfl | h
    · exact .inl rfl
    · split at h
      · rename_i c hc
        exact .inr (List.mem_flatMap.2 ⟨c, List.mem_of_getElem? hc, ih c p h⟩)
      · simp at h
theorem pl_nodup {s : List Nd} (wf : WF s) : ∀ (k n : Nat), (plF s k n).Nodup := by
  obtain ⟨h, B, u⟩ := wf.up
  intro k
  induction k with
  | zero => intro n; simp [plF]
  | succ k ih =>
    intro n
    have hks : (kidsOf s n).Nodup := by
      unfold kidsOf
      split
      · exact wf.nodup n _ ‹_›
      · exact List.nodup_nil
    unfold List.Nodup
    rw [plF, upTo, List.pairwise_flatMap]
    refine ⟨fun i _ => ?_, ?_⟩
    · rw [List.pairwise_cons]
      constructor
      · intro p hp e
        subst e
        split at hp
        · rename_i c hc
          exact all_head_not wf u (List.mem_of_getElem? hc) (pl_node k c _ hp)
        · simp at hp
      · split
        · exact ih _
        · exact List.Pairwise.nil
    · refine List.pairwise_lt_range.imp ?_
      intro i j hij x hx y hy e
      subst e
      rcases List.mem_cons.1 hx with rfl | hx <;> rcases List.mem_cons.1 hy with hy | hy
      · simp at hy; omega
      · split at hy
        · rename_i c hc
          exact all_head_not wf u (List.mem_of_getElem? hc) (pl_node k c _ hy)
        · simp at hy
      · subst hy
        split at hx
        · rename_i c hc
          exact all_head_not wf u (List.mem_of_getElem? hc) (pl_node k c _ hx)
        · simp at hx
      · split at hx
        · rename_i c hc
          split at hy
          · rename_i d hd
            have e := all_apart wf u (List.mem_of_getElem? hc) (List.mem_of_getElem? hd) (pl_node k c _ hx) (pl_node k d _ hy)
            subst e
            obtain ⟨h1, h2⟩ := List.getElem?_eq_some_iff.1 hc
            obtain ⟨h3, h4⟩ := List.getElem?_eq_some_iff.1 hd
            exact List.pairwise_iff_getElem.1 hks i j h1 h3 hij (h2.trans h4.symm)
          · simp at hy
        · simp at hx
theorem pp_index {s : List Nd} (wf : WF s) {k t : Nat} {a : Nat × Nat} {l : List Nat} {q : Int} (h : (a, l) ∈ ppF s k t) (hw : IsWhere (plF s k t) a q) : ∃ i : Nat, q = i ∧ (ppF s k t)[i]? = some (a, l) := by
  obtain ⟨i, hi⟩ := List.mem_iff_getElem?.1 h
  have hp : (plF s k t)[i]? = some a := by rw [← pp_fst, List.getElem?_map, hi]; rfl
  rcases hw with ⟨m, rfl, hm, _⟩ | ⟨_, hn⟩
  · refine ⟨i, ?_, hi⟩
    obtain ⟨h1, h2⟩ := List.getElem?_eq_some_iff.1 hp
    obtain ⟨h3, h4⟩ := List.getElem?_eq_some_iff.1 hm
    have hnd := List.pairwise_iff_getElem.1 (pl_nodup wf k t)
    rcases Nat.lt_trichotomy i m with e | e | e
    · exact absurd (h2.trans h4.symm) (hnd i m h1 h3 e)
    · rw [e]
    · exact absurd (h4.trans h2.symm) (hnd m i h3 h1 e)
  · exact absurd (List.mem_of_getElem? hp) hn
theorem pp_order {s : List Nd} (wf : WF s) {k t : Nat} {a b : Nat × Nat} {l m : List Nat} {qa qb : Int} (ha : (a, l) ∈ ppF s k t) (hb : (b, m) ∈ ppF s k t) (wa : IsWhere (plF s k t) a qa) (wb : IsWhere (plF s k t) b qb) :
    (qa < qb → lexN l m) ∧ (qb < qa → lexN m l) ∧ (qa = qb → l = m ∧ a = b) := by
  obtain ⟨i, rfl, hi⟩ := pp_index wf ha wa
  obtain ⟨j, rfl, hj⟩ := pp_index wf hb wb
  obtain ⟨h1, h2⟩ := List.getElem?_eq_some_iff.1 hi
  obtain ⟨h3, h4⟩ := List.getElem?_eq_some_iff.1 hj
  have hs := List.pairwise_iff_getElem.1 (pp_sorted s k t)
  refine ⟨fun e => ?_, fun e => ?_, fun e => ?_⟩
  · have := hs i j h1 h3 (by omega)
    rw [h2, h4] at this
    exact this
  · have := hs j i h3 h1 (by omega)
    rw [h2, h4] at this
    exact this
  · obtain rfl : i = j := by omega
    rw [hi] at hj
    cases hj
    exact ⟨rfl, rfl⟩
end Go.Proofs.YtabogkonklplcaaGreatDoor
