import Derived.Test.YtabogkonklplcaaGreatDoorC26
import Derived.Test.YtabogkonklplcaaGreatDoorC04
import Derived.Test.YtabogkonklplcaaGreatDoorC30
import Derived.Deep.QuietTactic
import Derived.BigQuiet

/- marginref's all, Walk. -/
namespace Go.Proofs.YtabogkonklplcaaGreatDoor
open Go.RowKit
set_option linter.unusedSimpArgs false
set_option linter.unusedVariables false

/-- A list of numbers that a call has made. -/
def NewList (w : World) (xs : List Nat) (e : Ending) (w' : World) : Prop :=
  ∃ a c, e = .returned (.slice a xs.length c) ∧ w'.ownsRow w.heap.size 3 1 (.slice a xs.length c) xs.length (intsV xs) ∧ Below w.heap.size w w'

theorem slice_form' {w : World} {B : Nat} {e : TypeId} {z n : Nat} {v : Value} {xs : List Value} (h : w.ownsRow B e z v n xs) : ∃ a c, v = .slice a n c := by
  obtain ⟨_, h2⟩ := h
  rcases h2 with ⟨e1, e2⟩ | ⟨g, c, cur, e1, _⟩
  · exact ⟨none, 0, by rw [e1, e2]⟩
  · exact ⟨_, _, e1⟩
theorem ownsRow_below {w w' : World} {B : Nat} {e : TypeId} {z n : Nat} {v : Value} {xs : List Value} (h : w.ownsRow B e z v n xs) (hb : Below w.heap.size w w') : w'.ownsRow B e z v n xs := by
  obtain ⟨h1, h2⟩ := h
  refine ⟨h1, ?_⟩
  rcases h2 with h2 | ⟨g, cap, cur, e1, hg, hh, rest⟩
  · exact .inl h2
  · exact .inr ⟨g, cap, cur, e1, hg, (hb.block g (heap_lt hh)).trans hh, rest⟩
theorem Keeps.rowB {F : Nat → Prop} {w w' : World} (h : Keeps F w w') {B : Nat} {e : TypeId} {z n : Nat} {v : Value} {xs : List Value} (hr : w.ownsRow B e z v n xs) (hv : ∀ b, v.ownBlock = some b → ¬ F b) : w'.ownsRow B e z v n xs := by
  obtain ⟨h1, h2⟩ := hr
  refine ⟨h1, ?_⟩
  rcases h2 with h2 | ⟨g, cap, cur, rfl, hg, hh, rest⟩
  · exact .inl h2
  · exact .inr ⟨g, cap, cur, rfl, hg, (h.block g (heap_lt hh) (hv g rfl)).trans hh, rest⟩
theorem slice_some {w : World} {B : Nat} {e : TypeId} {n : Nat} {a : Option Addr} {c : Nat} {xs : List Value} (h : w.ownsRow B e 1 (.slice a n c) n xs) (hn : 0 < n) : ∃ g, a = some ⟨g, 0, none⟩ ∧ ∀ j u, xs[j]? = some u → w.cell? ((⟨g, 0, none⟩ : Addr).add j) = some u := by
  have h' := h
  obtain ⟨h1, h2⟩ := h
  rcases h2 with ⟨e1, e2⟩ | ⟨g, c', cur, e1, _, hh, _, _, _, ht⟩
  · omega
  · cases e1
    refine ⟨g, rfl, fun j u hu => ?_⟩
    have hj : j < xs.length := (List.getElem?_eq_some_iff.1 hu).1
    rw [Addr.add_lit, Nat.zero_add, cell_of_heap hh, ← Array.getElem?_toList]
    rw [← ht, List.getElem?_take] at hu
    split at hu
    · exact hu
    · cases hu

section
variable {F : Nat → Prop} {bd bn cap : Nat} {rn : List RN} {rv : Value} {s : List Nd} {rs : List Sp}

theorem flatMap_len (wf : WF s) {h : Nat → Nat} {B : Nat} (u : Up s h B) {k n j : Nat} {x : Nd} (hx : s[n]? = some x) : (n :: (x.ks.take j).flatMap (allF s k)).length ≤ 40 := by
  have h1 := all_length wf (k + 1) n (List.getElem?_eq_some_iff.1 hx).1
  rw [allF, kidsOf_eq hx] at h1
  have e : x.ks.flatMap (allF s k) = (x.ks.take j).flatMap (allF s k) ++ (x.ks.drop j).flatMap (allF s k) := by rw [← List.flatMap_append, List.take_append_drop]
  rw [e] at h1
  simp only [List.length_cons, List.length_append] at h1 ⊢
  omega

set_option maxRecDepth 20000 in
set_option maxHeartbeats 2000000 in
theorem rall_any (wf : WF s) {h : Nat → Nat} {B : Nat} (u : Up s h B) : ∀ (k n : Nat), n < s.length → h n < k → ∀ w, RDocAt w F bd bn cap rn rv s rs → Calls Tryz.prog 49 #[.pointer (some ⟨bd, 0, none⟩), .int .i64 n] w (NewList w (allF s k n)) := by
  intro k
  induction k with
  | zero => intro n _ hh; omega
  | succ k ih =>
    intro n hn hh w hD
    obtain ⟨i0, hi, hz0, hz1, hz2⟩ := info_parts Tryz.info3
    have hx : s[n]? = some s[n] := List.getElem?_eq_getElem hn
    generalize s[n] = x at hx
    have HD := hid hD
    have hlt := hD.lt
    obtain ⟨r, hr, ho, _, _, hc2, _⟩ := hD.look hx
    obtain ⟨sa, sc, hkv⟩ := slice_form' ho.kids
    rw [hkv] at hc2
    have h0 := hD.nodesCell
    have hrow := ho.kids
    rw [hkv] at hrow
    have HROW := hid hrow
    have HX := hid hx
    have HL := hid (fun j => flatMap_len (k := k) (j := j) wf u hx)
    have HKID := hid (fun (c : Nat) (hc : c ∈ x.ks) => wf.kid_lt u hx hc)
    have IH := hid ih
    have hkl : x.ks.length ≤ 40 := Nat.le_trans (nodup_length s.length _ (wf.nodup n x hx) (fun c hc => (wf.kid_lt u hx hc).1)) wf.cap
    have hw0 : (w.alloc (.cells #[.int .i64 (n : Int)] 3)).ownsRow w.heap.size 3 1 (.slice (some ⟨w.heap.size, 0, none⟩) 1 1) 1 [.int .i64 (n : Int)] := by
      have := World.ownsRow_lit (base := w.heap.size) (e := 3) (size := 1) w #[.int .i64 (n : Int)] 1 (Nat.le_refl _) (by decide) rfl
      simpa using this
    have HW0 := hid hw0
    clear hD hr ho hrow hx ih hw0 hkv wf u
    go_enter Tryz.func49, Tryz.ntmps49
    go_wp2
    go_loopw [5, 6] (fun a b wr => ∃ (j : Nat) (v : Value), j ≤ x.ks.length ∧ b = .int .i64 j ∧ a = v ∧ wr.ownsRow w.heap.size 3 1 v (n :: (x.ks.take j).flatMap (allF s k)).length (intsV (n :: (x.ks.take j).flatMap (allF s k))) ∧ Below w.heap.size w wr) (fun _ b _ => x.ks.length - (intOf b).toNat)
    case atStart => exact ⟨0, _, Nat.zero_le _, rfl, rfl, by simpa [intsV] using HW0.out, (Below.refl _ w).alloc (Nat.le_refl _) _⟩
    case round =>
      obtain ⟨j, v, hj, rfl, rfl, hv, hb⟩ := hrel
      have hrw := (Keeps.of_below (F := fun _ => False) hb).row HROW.out (fun _ _ e => e)
      have hDr := HD.out.below hb
      have d0 := (hb.cell (p := ⟨bd, 0, none⟩) hlt.1).trans h0
      have d2 := (hb.cell (p := ⟨bn, n * 4 + 2, none⟩) hlt.2).trans hc2
      by_cases hlt2 : j < x.ks.length
      · obtain ⟨c, hc⟩ : ∃ c, x.ks[j]? = some c := ⟨_, List.getElem?_eq_getElem hlt2⟩
        obtain ⟨hcl, hch⟩ := HKID.out c (List.mem_of_getElem? hc)
        rcases row_cases hrw with ⟨_, hl0⟩ | ⟨g, cc, hgv⟩
        · omega
        cases hgv
        have cel : wr.cell? ⟨g, j, none⟩ = some (.int .i64 (c : Int)) := by
          rw [hrw.cellAt j (by omega)]
          simp [intsV, hc]
        have C := hid (IH.out c hcl (by omega) wr hDr)
        have hjI : (j : Int) < x.ks.length := by omega
        have HC := hid hc
        have HV := hid hv
        have HB := hid hb
        have hpos : 0 < (allF s k c).length := by
          obtain ⟨k', rfl⟩ : ∃ k', k = k' + 1 := ⟨k - 1, by omega⟩
          simp [allF]
        have htk : (n :: (x.ks.take (j + 1)).flatMap (allF s k)) = (n :: (x.ks.take j).flatMap (allF s k)) ++ allF s k c := by
          rw [List.take_add_one, hc]; simp
        have HTK := hid htk
        have hll := HL.out (j + 1)
        rw [htk] at hll
        simp only [List.length_append] at hll
        clear hc hv hb hDr hrw htk
        go_wp2_with (first
          | (go_at_call 49; refine C.out.mono ?_; rintro e w2 ⟨a2, c2, rfl, h2, hb2⟩
             obtain ⟨g2, rfl, hsrc⟩ := slice_some h2 hpos
             have hv2 := ownsRow_below HV.out hb2
             have H2 := hid h2
             have HB2 := hid (HB.out.trans (hb2.mono HB.out.size))
             clear h2 hb2)
          | (at_builtin; refine wpList_append_own _ rfl _ _ 24 rfl w.heap.size 3 i0 (.int .i64 0) 1 8 Tryz.underlying24 hi hz0 hz1 hz2 rfl (by decide) u5 _ _ rfl hv2 ⟨g2, 0, none⟩ (allF s k c).length c2 (intsV (allF s k c)) rfl (by simp) hsrc (intsV_one _) (by unfold maxLen; omega) (by omega) HB2.out.size ?_
             intro v3 w3 ho3 hg3 _
             have HO3 := hid ho3
             have HB3 := hid (HB2.out.grown hg3 HB2.out.size (fun k e => (hv2.lt k e).1))
             clear ho3 hg3))
        go_roundw
        case rel =>
          refine ⟨j + 1, v3, by omega, by go_num, rfl, ?_, HB3.out⟩
          have e : intsV ((n :: (x.ks.take j).flatMap (allF s k)) ++ allF s k c) = intsV (n :: (x.ks.take j).flatMap (allF s k)) ++ intsV (allF s k c) := by simp [intsV]
          rw [HTK.out, List.length_append, e]
          exact HO3.out
        case measure => simp [intOf]; omega
      · obtain rfl : j = x.ks.length := by omega
        have hjI : ¬ (x.ks.length : Int) < x.ks.length := by omega
        have hfin : allF s (k + 1) n = n :: (x.ks.take x.ks.length).flatMap (allF s k) := by rw [allF, kidsOf_eq HX.out, List.take_of_length_le (Nat.le_refl _)]
        rw [← hfin] at hv
        obtain ⟨L, hLL⟩ : ∃ L, allF s (k + 1) n = L := ⟨_, rfl⟩
        rw [hLL] at hv
        have HLL := hid hLL
        obtain ⟨va, vc, hva⟩ := slice_form' hv
        subst hva
        clear hfin hLL
        have HV := hid hv
        have HB := hid hb
        clear hv hb hDr hrw
        go_wp2
        go_ret
        rw [HLL.out]
        exact ⟨va, vc, rfl, HV.out, HB.out⟩

variable {w : World}

set_option maxRecDepth 20000 in
set_option maxHeartbeats 1000000 in
theorem rwalk_no (hD : RDocAt w F bd bn cap rn rv s rs) (n : Int) (hn : isB s n = false) :
    Calls Tryz.prog 19 #[.pointer (some ⟨bd, 0, none⟩), .int .i64 n] w fun e w' => e = .returned (.tuple #[.slice none 0 0, .agg #[.int .i64 n, .int .i64 1]]) ∧ Below w.heap.size w w' := by
  have HD := hid hD.faultAt
  clear hD
  go_enter Tryz.func19, Tryz.ntmps19
  go_wp2_with (first
    | (go_at_call 47; refine (is_at HD.out _).mono ?_; rintro e w' ⟨rfl, rfl⟩)
    | (go_at_call 48; refine (no_any _ _ _).mono ?_; rintro e w' ⟨rfl, rfl⟩))
  go_returns
  refine ⟨rfl, ?_⟩
  go_grown

/-- A list that a call has made, and no fault. -/
def NewWalk (w : World) (xs : List Nat) (e : Ending) (w' : World) : Prop :=
  ∃ a c, e = .returned (.tuple #[.slice a xs.length c, .agg #[.int .i64 0, .int .i64 0]]) ∧ w'.ownsRow w.heap.size 3 1 (.slice a xs.length c) xs.length (intsV xs) ∧ Below w.heap.size w w'

theorem ownsRow_base {w : World} {B B' : Nat} {e : TypeId} {z n : Nat} {v : Value} {xs : List Value} (h : w.ownsRow B e z v n xs) (hB : B' ≤ B) : w.ownsRow B' e z v n xs := by
  obtain ⟨h1, h2⟩ := h
  refine ⟨h1, ?_⟩
  rcases h2 with h2 | ⟨g, cap, cur, e1, hg, rest⟩
  · exact .inl h2
  · exact .inr ⟨g, cap, cur, e1, Nat.le_trans hB hg, rest⟩

set_option maxRecDepth 20000 in
set_option maxHeartbeats 1000000 in
theorem rwalk_yes (wf : WF s) {h : Nat → Nat} {B : Nat} (u : Up s h B) (hD : RDocAt w F bd bn cap rn rv s rs) (k n : Nat) (hn : n < s.length) (hk : h n < k) :
    Calls Tryz.prog 19 #[.pointer (some ⟨bd, 0, none⟩), .int .i64 n] w (NewWalk w (allF s k n)) := by
  have hi : isB s n = true := isB_of (by omega)
  have HC := hid (rall_any (F := F) (bd := bd) (bn := bn) (cap := cap) (rn := rn) (rv := rv) (rs := rs) wf u k n hn hk _ hD.faultAt)
  have HD := hid hD.faultAt
  clear hD
  generalize allF s k n = L at HC ⊢
  go_enter Tryz.func19, Tryz.ntmps19
  go_wp2_with (first
    | (go_at_call 47; refine (is_at HD.out _).mono ?_; rintro e w' ⟨rfl, rfl⟩)
    | (go_at_call 49
       refine HC.out.mono ?_
       rintro e w1 ⟨a2, c2, rfl, hr, hb⟩
       have hq : w1.heap[w.heap.size]? = some (.cells #[.int .i64 0, .int .i64 0] 32 (0, 0)) := (hb.block w.heap.size (by simp)).trans (heap_alloc_new w _)
       have hc2 : w1.cell? ⟨w.heap.size, 0, none⟩ = some (.int .i64 0) := cell_of_heap hq 0
       have hc3 : w1.cell? ⟨w.heap.size, 1, none⟩ = some (.int .i64 0) := cell_of_heap hq 1
       have hf2 := frozen_of_heap hq 0
       have hf3 := frozen_of_heap hq 1
       have HB : Hid (Below w.heap.size w w1) := ((Below.refl _ w).alloc (Nat.le_refl _) _).trans (hb.mono (by simp))
       have HR := hid (And.intro (ownsRow_base hr (Nat.le_of_lt (show w.heap.size < (w.alloc _).heap.size by simp))) (And.intro hr hb))
       clear hq hb hr))
  refine bodyPost_ret (v := .tuple #[.slice a2 L.length c2, .agg #[.int .i64 0, .int .i64 0]]) (by simp [results, Tryz.results19, go_sem, *]) rfl ?_
  refine ⟨a2, c2, rfl, ?_, ?_⟩
  · have h1 := HR.out.2.1
    have hne : ∀ b, (Value.slice a2 L.length c2).ownBlock = some b → b ≠ w.heap.size := fun b e => by have := (h1.lt b e).1; simp at this; omega
    exact Keeps.rowB (((Keeps.refl (fun b => b = w.heap.size) w1).setCell (p := ⟨w.heap.size, 0, none⟩) (.inl rfl) _).setCell (p := ⟨w.heap.size, 1, none⟩) (.inl rfl) _) HR.out.1 hne
  · have hh := HB.out
    have hsz := hh.size
    go_grown
end
end Go.Proofs.YtabogkonklplcaaGreatDoor

/- marginref's where. -/
namespace Go.Proofs.YtabogkonklplcaaGreatDoor
open Go.RowKit
set_option linter.unusedSimpArgs false
set_option linter.unusedVariables false

/-- Places as they lie in memory. -/
def plV (l : List (Nat × Nat)) : List Value := l.flatMap fun p => [.int .i64 p.1, .int .i64 p.2]
@[simp] theorem plV_length (l : List (Nat × Nat)) : (plV l).length = 2 * l.length := by
  induction l with
  | nil => rfl
  | cons a l ih => simp [plV] at ih ⊢; omega
@[simp] theorem plV_append (l m : List (Nat × Nat)) : plV (l ++ m) = plV l ++ plV m := by simp [plV]
theorem plV_at (l : List (Nat × Nat)) (j : Nat) (p : Nat × Nat) (h : l[j]? = some p) : (plV l)[j * 2]? = some (.int .i64 p.1) ∧ (plV l)[j * 2 + 1]? = some (.int .i64 p.2) := by
  induction l generalizing j with
  | nil => simp at h
  | cons a l ih =>
    cases j with
    | zero => simp at h; subst h; simp [plV]
    | succ j =>
      have := ih j (by simpa using h)
      have e1 : (j + 1) * 2 = j * 2 + 2 := by omega
      have e2 : plV (a :: l) = .int .i64 a.1 :: .int .i64 a.2 :: plV l := by simp [plV]
      rw [e1, e2]
      simpa using this
theorem plV_one (l : List (Nat × Nat)) : ∀ u ∈ plV l, Value.oneCell' u := by
  intro u hu
  simp only [plV, List.mem_flatMap] at hu
  obtain ⟨p, _, h⟩ := hu
  simp at h
  rcases h with rfl | rfl <;> simp [Value.oneCell']

theorem below_drewN {B : Nat} {a w : World} (h : Below B a w) (n : Nat) : Below B a (w.drewN n) := ⟨h.os, h.tape, h.output, h.size, h.block⟩

/-- Where a place is among some. -/
def IsWhere (l : List (Nat × Nat)) (p : Nat × Nat) (q : Int) : Prop := (∃ m : Nat, q = m ∧ l[m]? = some p ∧ p ∉ l.take m) ∨ (q = -1 ∧ p ∉ l)
def WherePost (l : List (Nat × Nat)) (p : Nat × Nat) (w : World) (e : Ending) (w' : World) : Prop := (∃ q : Int, e = .returned (.int .i64 q) ∧ IsWhere l p q) ∧ Below w.heap.size w w'
def WhereInv (l : List (Nat × Nat)) (p : Nat × Nat) (w : World) (a : Value) (wr : World) : Prop := Below w.heap.size w wr ∧ ∃ j : Nat, a = .int .i64 j ∧ j ≤ l.length ∧ p ∉ l.take j

set_option maxRecDepth 20000 in
set_option maxHeartbeats 1000000 in
theorem where_any (l : List (Nat × Nat)) (v : Value) (n k : Nat) (w : World) (hr : w.ownsRow 0 37 2 v l.length (plV l)) (hbig : l.length < lots) :
    Calls Tryz.prog 133 #[v, .agg #[.int .i64 n, .int .i64 k]] w (WherePost l (n, k) w) := by
  obtain ⟨sa, sc, hv⟩ := slice_form' hr
  subst hv
  have HR := hid hr
  have HB := hid hbig
  clear hr hbig
  go_enter Tryz.func133, Tryz.ntmps133
  go_wp2
  go_loopw [5] (fun a wr => WhereInv l (n, k) w a wr ∧ wr.heap[w.heap.size]? = some (.cells #[.int .i64 n, .int .i64 k] 37 (0, 0))) (fun a _ => l.length - (intOf a).toNat)
  case atStart => exact ⟨⟨(Below.refl _ w).alloc (Nat.le_refl _) _, 0, rfl, Nat.zero_le _, by simp⟩, heap_alloc_new w _⟩
  case round =>
    obtain ⟨⟨hb, j, rfl, hj, hno⟩, hq⟩ := hrel
    have hq0 : wr.cell? ⟨w.heap.size, 0, none⟩ = some (.int .i64 n) := cell_of_heap hq 0
    have hq1 : wr.cell? ⟨w.heap.size, 1, none⟩ = some (.int .i64 k) := cell_of_heap hq 1
    have hbig := HB.out
    unfold lots at hbig
    by_cases hlt : j < l.length
    · have hlI : (j : Int) < (l.length : Int) := by omega
      obtain ⟨p, hp⟩ : ∃ p, l[j]? = some p := ⟨_, List.getElem?_eq_getElem hlt⟩
      have hrw := (Keeps.of_below (F := fun _ => False) hb).row HR.out (fun _ _ e => e)
      rcases row_cases hrw with ⟨_, hl0⟩ | ⟨g, cc, hgv⟩
      · omega
      cases hgv
      have cel0 : wr.cell? ⟨g, j * 2, none⟩ = some (.int .i64 (p.1 : Int)) := by
        rw [hrw.cellAt (j * 2) (by omega), (plV_at l j p hp).1]
      have cel1 : wr.cell? ⟨g, j * 2 + 1, none⟩ = some (.int .i64 (p.2 : Int)) := by
        rw [hrw.cellAt (j * 2 + 1) (by omega), (plV_at l j p hp).2]
      have HB1 := hid hb
      have HQ := hid hq
      have HNO := hid hno
      have HP := hid hp
      clear hb hrw hq hno hp
      obtain ⟨p1, p2⟩ := p
      by_cases he : p1 = n ∧ p2 = k
      · obtain ⟨rfl, rfl⟩ := he
        go_wp2
        go_quiet (fail)
        go_wp2
        go_ret
        exact ⟨⟨j, rfl, .inl ⟨j, rfl, HP.out, HNO.out⟩⟩, below_drewN HB1.out _⟩
      · have hno2 : (n, k) ∉ l.take (j + 1) := by
          rw [List.take_add_one, HP.out]
          simp only [Option.toList_some, List.mem_append, List.mem_singleton, Prod.mk.injEq]
          rintro (h1 | ⟨h1, h2⟩)
          · exact HNO.out h1
          · exact he ⟨h1.symm, h2.symm⟩
        have HNO2 := hid hno2
        clear hno2
        by_cases h1 : p1 = n
        · subst h1
          have h2 : ¬ (p2 : Int) = k := fun e => he ⟨rfl, by omega⟩
          have h3 : decide ((p2 : Int) = k) = false := decide_eq_false h2
          go_wp2
          go_quiet (fail)
          go_wp2
          go_roundw
          case rel => exact ⟨⟨below_drewN HB1.out _, j + 1, by go_num, by omega, HNO2.out⟩, HQ.out⟩
          case measure => simp [intOf]; omega
        · have h2 : ¬ (p1 : Int) = n := fun e => h1 (by omega)
          have h3 : decide ((p1 : Int) = n) = false := decide_eq_false h2
          go_wp2
          go_quiet (fail)
          go_wp2
          go_roundw
          case rel => exact ⟨⟨below_drewN HB1.out _, j + 1, by go_num, by omega, HNO2.out⟩, HQ.out⟩
          case measure => simp [intOf]; omega
    · obtain rfl : j = l.length := by omega
      have hjI : ¬ (l.length : Int) < l.length := by omega
      rw [List.take_of_length_le (Nat.le_refl _)] at hno
      go_wp2
      go_ret
      exact ⟨⟨-1, rfl, .inr ⟨rfl, hno⟩⟩, hb⟩

end Go.Proofs.YtabogkonklplcaaGreatDoor
