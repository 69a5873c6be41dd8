import Derived.Test.YtabogkonklplcaaGreatDoorE13
import Derived.Test.YtabogkonklplcaaGreatDoorE10

/- The characters of a text from a place on. -/
namespace Go.Proofs.YtabogkonklplcaaGreatDoor
open Go.RowKit
set_option linter.unusedSimpArgs false
set_option linter.unusedVariables false

def byteN (t : ByteArray) (i : Nat) : Nat := (t.get! i).toNat
theorem byteN_lt (t : ByteArray) (i : Nat) : byteN t i < 256 := (t.get! i).toNat_lt
theorem byteI_nat (t : ByteArray) (i : Nat) (h : i < t.size) : byteI t i = (byteN t i : Int) := by
  have e : t.get! i = t[i]'h := by
    cases t with
    | mk d => exact getElem!_pos d i h
  unfold byteI byteN
  rw [dif_pos h, e]
theorem byteI_extract (t : ByteArray) (p q i : Nat) (h : p + i < q) (hq : q ≤ t.size) : byteI (t.extract p q) i = byteI t (p + i) := by
  unfold byteI
  rw [dif_pos (by rw [ByteArray.size_extract]; omega), dif_pos (by omega)]
  rw [ByteArray.getElem_extract]

theorem headW_1 (t : ByteArray) (lo hi : Int) (hm : moreF (byteI t 0) = (1, lo, hi)) : headW t = if 2 ≤ t.size ∧ lo ≤ byteI t 1 ∧ byteI t 1 ≤ hi then 2 else 0 := by
  unfold headW
  simp only [hm]
  have e : (1 : Int).toNat = 1 := rfl
  simp only [e, okTail, Bool.true_and, decide_eq_true_eq, if_true, Nat.zero_add]
  repeat' split
  all_goals first | rfl | (exfalso; omega)
theorem headW_2 (t : ByteArray) (lo hi : Int) (hm : moreF (byteI t 0) = (2, lo, hi)) : headW t = if 3 ≤ t.size ∧ (lo ≤ byteI t 1 ∧ byteI t 1 ≤ hi) ∧ (128 ≤ byteI t 2 ∧ byteI t 2 ≤ 191) then 3 else 0 := by
  unfold headW
  simp only [hm]
  have e : (2 : Int).toNat = 2 := rfl
  simp only [e, okTail, Bool.true_and, Bool.and_eq_true, decide_eq_true_eq, if_true, Nat.zero_add, Nat.reduceAdd, Nat.succ_ne_zero, if_false]
  repeat' split
  all_goals first | rfl | (exfalso; omega)
theorem headW_3 (t : ByteArray) (lo hi : Int) (hm : moreF (byteI t 0) = (3, lo, hi)) : headW t = if 4 ≤ t.size ∧ (lo ≤ byteI t 1 ∧ byteI t 1 ≤ hi) ∧ (128 ≤ byteI t 2 ∧ byteI t 2 ≤ 191) ∧ (128 ≤ byteI t 3 ∧ byteI t 3 ≤ 191) then 4 else 0 := by
  unfold headW
  simp only [hm]
  have e : (3 : Int).toNat = 3 := rfl
  simp only [e, okTail, Bool.true_and, Bool.and_eq_true, decide_eq_true_eq, if_true, Nat.zero_add, Nat.reduceAdd, Nat.succ_ne_zero, if_false]
  repeat' split
  all_goals first | rfl | (exfalso; omega)

set_option maxHeartbeats 2000000 in
theorem headW_eq (t : ByteArray) (h : 0 < t.size) (b0 b1 b2 b3 : Nat) (e0 : byteI t 0 = b0) (e1 : 1 < t.size → byteI t 1 = b1) (e2 : 2 < t.size → byteI t 2 = b2) (e3 : 3 < t.size → byteI t 3 = b3) :
    headW t = headN t.size b0 b1 b2 b3 := by
  unfold headN
  have mo : ∀ x, moreF (b0 : Int) = x → moreF (byteI t 0) = x := fun x hx => by rw [e0]; exact hx
  by_cases a : b0 < 128
  · rw [if_pos a]
    have hm := mo (0, 0, 0) (by unfold moreF; rw [if_pos (by omega)])
    unfold headW
    simp only [hm]
    rw [if_neg (by omega)]
    rfl
  rw [if_neg a]
  by_cases c1 : 194 ≤ b0 ∧ b0 ≤ 223
  · rw [if_pos c1, headW_1 t 128 191 (mo _ (by unfold moreF; (repeat' split) <;> first | rfl | (exfalso; omega)))]
    repeat' split
    all_goals first | rfl | (exfalso; omega)
  rw [if_neg c1]
  by_cases c2 : b0 = 224
  · rw [if_pos c2, headW_2 t 160 191 (mo _ (by unfold moreF; (repeat' split) <;> first | rfl | (exfalso; omega)))]
    repeat' split
    all_goals first | rfl | (exfalso; omega)
  rw [if_neg c2]
  by_cases c3 : b0 = 237
  · rw [if_pos c3, headW_2 t 128 159 (mo _ (by unfold moreF; (repeat' split) <;> first | rfl | (exfalso; omega)))]
    repeat' split
    all_goals first | rfl | (exfalso; omega)
  rw [if_neg c3]
  by_cases c4 : 225 ≤ b0 ∧ b0 ≤ 239
  · rw [if_pos c4, headW_2 t 128 191 (mo _ (by unfold moreF; (repeat' split) <;> first | rfl | (exfalso; omega)))]
    repeat' split
    all_goals first | rfl | (exfalso; omega)
  rw [if_neg c4]
  by_cases c5 : b0 = 240
  · rw [if_pos c5, headW_3 t 144 191 (mo _ (by unfold moreF; (repeat' split) <;> first | rfl | (exfalso; omega)))]
    repeat' split
    all_goals first | rfl | (exfalso; omega)
  rw [if_neg c5]
  by_cases c6 : 241 ≤ b0 ∧ b0 ≤ 243
  · rw [if_pos c6, headW_3 t 128 191 (mo _ (by unfold moreF; (repeat' split) <;> first | rfl | (exfalso; omega)))]
    repeat' split
    all_goals first | rfl | (exfalso; omega)
  rw [if_neg c6]
  by_cases c7 : b0 = 244
  · rw [if_pos c7, headW_3 t 128 143 (mo _ (by unfold moreF; (repeat' split) <;> first | rfl | (exfalso; omega)))]
    repeat' split
    all_goals first | rfl | (exfalso; omega)
  rw [if_neg c7]
  have hm := mo (-1, 0, 0) (by unfold moreF; (repeat' split) <;> first | rfl | (exfalso; omega))
  unfold headW
  simp only [hm]
  rw [if_pos (by omega)]

/-- The character at a place, by marginref's rule and by the model's decoding. -/
theorem headW_at (t : ByteArray) (p : Nat) (h : p < t.size) :
    (headW (t.extract p t.size) = 0 ∧ Utf8.decode t p = (65533, 1)) ∨ (headW (t.extract p t.size) ≠ 0 ∧ (Utf8.decode t p).2 = headW (t.extract p t.size) ∧ Utf8.decode t p ≠ (65533, 1)) := by
  have hs : (t.extract p t.size).size = t.size - p := by rw [ByteArray.size_extract]; omega
  have e : headW (t.extract p t.size) = headN (t.size - p) (byteN t p) (byteN t (p + 1)) (byteN t (p + 2)) (byteN t (p + 3)) := by
    rw [← hs]
    refine headW_eq _ (by omega) _ _ _ _ ?_ ?_ ?_ ?_
    · rw [byteI_extract t p t.size 0 (by omega) (Nat.le_refl _)]; exact byteI_nat t p h
    · intro h1; rw [byteI_extract t p t.size 1 (by omega) (Nat.le_refl _)]; exact byteI_nat t _ (by omega)
    · intro h1; rw [byteI_extract t p t.size 2 (by omega) (Nat.le_refl _)]; exact byteI_nat t _ (by omega)
    · intro h1; rw [byteI_extract t p t.size 3 (by omega) (Nat.le_refl _)]; exact byteI_nat t _ (by omega)
  rw [e, Lib.decode_at]
  exact headN_decodeN _ _ _ _ _ (byteN_lt _ _) (byteN_lt _ _) (byteN_lt _ _) (byteN_lt _ _)

end Go.Proofs.YtabogkonklplcaaGreatDoor

/- marginref's places. -/
namespace Go.Proofs.YtabogkonklplcaaGreatDoor
open Go.RowKit
set_option linter.unusedSimpArgs false
set_option linter.unusedVariables false

/-- The places of a node from one on: each, and behind it those of the child that comes there. -/
def upTo (n : Nat) (ks : List Nat) (f : Nat → List (Nat × Nat)) (m : Nat) : List (Nat × Nat) :=
  (List.range m).flatMap fun i => (n, i) :: (match ks[i]? with | some c => f c | none => [])
theorem upTo_zero (n : Nat) (ks : List Nat) (f : Nat → List (Nat × Nat)) : upTo n ks f 0 = [] := rfl
theorem upTo_succ_some {n m c : Nat} {ks : List Nat} {f : Nat → List (Nat × Nat)} (h : ks[m]? = some c) : upTo n ks f (m + 1) = upTo n ks f m ++ [(n, m)] ++ f c := by
  simp [upTo, List.range_succ, h]
theorem upTo_succ_none {n m : Nat} {ks : List Nat} {f : Nat → List (Nat × Nat)} (h : ks[m]? = none) : upTo n ks f (m + 1) = upTo n ks f m ++ [(n, m)] := by
  simp [upTo, List.range_succ, h]
theorem upTo_length (n : Nat) (ks : List Nat) (f : Nat → List (Nat × Nat)) (m : Nat) : (upTo n ks f m).length = m + ((ks.take m).flatMap f).length := by
  induction m with
  | zero => rfl
  | succ m ih =>
    rw [List.take_add_one]
    cases h : ks[m]? with
    | none => rw [upTo_succ_none h]; simp [ih]; omega
    | some c => rw [upTo_succ_some h]; simp [ih]; omega

def sizeAt (s : List Nd) (n : Nat) : Nat := match s[n]? with | some x => sizeN x | none => 0
theorem sizeAt_eq {s : List Nd} {n : Nat} {x : Nd} (h : s[n]? = some x) : sizeAt s n = sizeN x := by simp [sizeAt, h]

/-- All places in a node and in all within it, so many levels deep. -/
def plF (s : List Nd) : Nat → Nat → List (Nat × Nat)
  | 0, _ => []
  | k + 1, n => upTo n (kidsOf s n) (plF s k) (sizeAt s n + 1)

theorem kids_le {s : List Nd} (wf : WF s) {n : Nat} {x : Nd} (hx : s[n]? = some x) : x.ks.length ≤ 40 := by
  obtain ⟨h, B, u⟩ := wf.up
  exact Nat.le_trans (nodup_length s.length _ (wf.nodup n x hx) (fun c hc => (wf.kid_lt u hx hc).1)) wf.cap
theorem sizeN_le {s : List Nd} (wf : WF s) {n : Nat} {x : Nd} (hx : s[n]? = some x) : sizeN x ≤ 40 := by
  unfold sizeN
  split
  · have := (wf.chars n x hx).1; omega
  · exact kids_le wf hx

theorem flatMap_le {α β γ : Type} (f : α → List β) (g : α → List γ) (c : Nat) : ∀ l : List α, (∀ a ∈ l, (f a).length ≤ c * (g a).length) → (l.flatMap f).length ≤ c * (l.flatMap g).length := by
  intro l
  induction l with
  | nil => intro _; simp
  | cons a l ih =>
    intro h
    have h1 := h a (by simp)
    have h2 := ih (fun b hb => h b (by simp [hb]))
    simp only [List.flatMap_cons, List.length_append, Nat.mul_add]
    omega

theorem plF_le {s : List Nd} (wf : WF s) : ∀ (k n : Nat), n < s.length → (plF s k n).length ≤ 41 * (allF s k n).length := by
  obtain ⟨h, B, u⟩ := wf.up
  intro k
  induction k with
  | zero => intro n _; simp [plF]
  | succ k ih =>
    intro n hn
    have hx : s[n]? = some s[n] := List.getElem?_eq_getElem hn
    have hs := sizeN_le wf hx
    have hl : (((kidsOf s n).take (sizeAt s n + 1)).flatMap (plF s k)).length ≤ 41 * (((kidsOf s n).take (sizeAt s n + 1)).flatMap (allF s k)).length :=
      flatMap_le _ _ 41 _ (fun c hc => ih c (by
        have := List.mem_of_mem_take hc
        rw [kidsOf_eq hx] at this
        exact (wf.kid_lt u hx this).1))
    have e : (kidsOf s n).flatMap (allF s k) = ((kidsOf s n).take (sizeAt s n + 1)).flatMap (allF s k) ++ ((kidsOf s n).drop (sizeAt s n + 1)).flatMap (allF s k) := by rw [← List.flatMap_append, List.take_append_drop]
    rw [plF, upTo_length, allF, List.length_cons, e, List.length_append]
    rw [sizeAt_eq hx] at hl ⊢
    omega

theorem upTo_le {s : List Nd} (wf : WF s) {k n m : Nat} {x : Nd} (hx : s[n]? = some x) (hm : m ≤ 41) : (upTo n x.ks (plF s k) m).length ≤ 1640 := by
  obtain ⟨h, B, u⟩ := wf.up
  have hl : ((x.ks.take m).flatMap (plF s k)).length ≤ 41 * ((x.ks.take m).flatMap (allF s k)).length :=
    flatMap_le _ _ 41 _ (fun c hc => plF_le wf k c (wf.kid_lt u hx (List.mem_of_mem_take hc)).1)
  have h2 := flatMap_len (k := k) (j := m) wf u hx
  rw [List.length_cons] at h2
  rw [upTo_length]
  omega

/-- A list of places that a call has made. -/
def NewPlaces (w : World) (xs : List (Nat × Nat)) (e : Ending) (w' : World) : Prop :=
  ∃ a c, e = .returned (.slice a xs.length c) ∧ w'.ownsRow w.heap.size 37 2 (.slice a xs.length c) xs.length (plV xs) ∧ Below w.heap.size w w'

theorem slice_some2 {w : World} {B : Nat} {e : TypeId} {z n : Nat} {a : Option Addr} {c : Nat} {xs : List Value} (h : w.ownsRow B e z (.slice a n c) n xs) (hn : 0 < n) : ∃ g, a = some ⟨g, 0, none⟩ ∧ ∀ j u, xs[j]? = some u → w.cell? ((⟨g, 0, none⟩ : Addr).add j) = some u := by
  have h' := h
  obtain ⟨h1, h2⟩ := h
  rcases h2 with ⟨e1, e2⟩ | ⟨g, c', cur, e1, _, hh, _, _, _, ht⟩
  · omega
  · cases e1
    refine ⟨g, rfl, fun j u hu => ?_⟩
    have hj : j < xs.length := (List.getElem?_eq_some_iff.1 hu).1
    rw [Addr.add_lit, Nat.zero_add, cell_of_heap hh, ← Array.getElem?_toList]
    rw [← ht, List.getElem?_take] at hu
    split at hu
    · exact hu
    · cases hu

theorem Tryz.info37 : (Tryz.prog.info? 37).map (fun i => (i.zero, i.size, i.bytes)) = some (some (.agg #[.int .i64 0, .int .i64 0]), 2, 16) := by kernel_rfl

section
variable {F : Nat → Prop} {bd bn cap : Nat} {rn : List RN} {rv : Value} {s : List Nd} {rs : List Sp}

set_option maxRecDepth 20000 in
set_option maxHeartbeats 2000000 in
theorem places_any (wf : WF s) {h : Nat → Nat} {B : Nat} (u : Up s h B) : ∀ (k n : Nat), n < s.length → h n < k → ∀ w, RDocAt w F bd bn cap rn rv s rs → Calls Tryz.prog 132 #[.pointer (some ⟨bd, 0, none⟩), .int .i64 n] w (NewPlaces w (plF s k n)) := by
  intro k
  induction k with
  | zero => intro n _ hh; omega
  | succ k ih =>
    intro n hn hh w hD
    obtain ⟨i0, hi, hz0, hz1, hz2⟩ := info_parts Tryz.info37
    have hx : s[n]? = some s[n] := List.getElem?_eq_getElem hn
    generalize s[n] = x at hx
    have HD := hid hD
    have hlt := hD.lt
    obtain ⟨r, hr, ho, hc0, _, hc2, _⟩ := hD.look hx
    obtain ⟨sa, sc, hkv⟩ := slice_form' ho.kids
    rw [hkv] at hc2
    have h0 := hD.nodesCell
    have hrow := ho.kids
    rw [hkv] at hrow
    have HROW := hid hrow
    have HX := hid hx
    have HL := hid (fun m hm => upTo_le (k := k) (m := m) wf hx hm)
    have HKID := hid (fun (c : Nat) (hc : c ∈ x.ks) => wf.kid_lt u hx hc)
    have HEL := hid (wf.elem n x hx)
    have IH := hid ih
    have hkl : x.ks.length ≤ 40 := kids_le wf hx
    have hsl : sizeN x ≤ 40 := sizeN_le wf hx
    clear hD hr ho hrow hx ih hkv wf u
    go_enter Tryz.func132, Tryz.ntmps132
    go_wp2
    go_loopw [5, 6] (fun a b wr => ∃ (j : Nat) (v : Value), j ≤ sizeN x + 1 ∧ b = .int .i64 j ∧ a = v ∧ wr.ownsRow w.heap.size 37 2 v (upTo n x.ks (plF s k) j).length (plV (upTo n x.ks (plF s k) j)) ∧ Below w.heap.size w wr) (fun _ b _ => sizeN x + 1 - (intOf b).toNat)
    case atStart => exact ⟨0, _, Nat.zero_le _, rfl, rfl, World.ownsRow_nil _ _ _ _, Below.refl _ w⟩
    case round =>
      obtain ⟨j, v, hj, rfl, rfl, hv, hb⟩ := hrel
      have hDr := HD.out.below hb
      have CS := hid (size_any hDr n x HX.out)
      clear hDr
      by_cases hj2 : j ≤ sizeN x
      · have hjI : (j : Int) ≤ (sizeN x : Int) := by omega
        have src : ∀ (i : Nat) (u : Value), [Value.int .i64 (n : Int), .int .i64 (j : Int)][i]? = some u → (wr.alloc (.cells #[.int .i64 (n : Int), .int .i64 (j : Int)] 37)).cell? ((⟨wr.heap.size, 0, none⟩ : Addr).add i) = some u := by
          have := World.news_of_block (heap_alloc_new wr (.cells #[.int .i64 (n : Int), .int .i64 (j : Int)] 37))
          simpa using this
        have SRC := hid src
        have hll := HL.out j (by omega)
        have HV := hid hv
        have HB := hid hb
        clear hv hb src
        by_cases hj3 : j < x.ks.length
        · obtain ⟨c, hc⟩ : ∃ c, x.ks[j]? = some c := ⟨_, List.getElem?_eq_getElem hj3⟩
          obtain ⟨hcl, hch⟩ := HKID.out c (List.mem_of_getElem? hc)
          have ht : x.t = false := by
            cases e : x.t with
            | false => rfl
            | true => have := HEL.out.1 e; rw [this] at hj3; simp at hj3
          have hj3I : (j : Int) < (x.ks.length : Int) := by omega
          rw [ht] at hc0
          have HUP := hid (upTo_succ_some (n := n) (f := plF s k) hc)
          have hll2 := HL.out (j + 1) (by omega)
          rw [HUP.out] at hll2
          simp only [List.length_append, List.length_singleton] at hll2
          have hpos : 0 < (plF s k c).length := by
            obtain ⟨k', rfl⟩ : ∃ k', k = k' + 1 := ⟨k - 1, by omega⟩
            rw [plF, upTo_length]
            omega
          obtain ⟨g, hgv⟩ : ∃ g, sa = some ⟨g, 0, none⟩ := by
            rcases row_cases HROW.out with ⟨_, hl0⟩ | ⟨g, cc, hgv⟩
            · omega
            · cases hgv; exact ⟨_, rfl⟩
          subst hgv
          have HC := hid hc
          have hkc : k > h c := by omega
          clear hc
          go_wp2_with (first
            | (go_at_call 168; refine CS.out.mono ?_; rintro e w' ⟨rfl, hw'⟩; replace hw' := hw'.symm; subst hw')
            | (at_builtin; refine wpList_append_own _ rfl (.tmp 14) (.tmp 18) 197 rfl w.heap.size 37 i0 (.agg #[.int .i64 0, .int .i64 0]) 2 16 Tryz.underlying197 hi hz0 hz1 hz2 rfl (by decide) u5 _ _ rfl (HV.out.alloc _) ⟨wr.heap.size, 0, none⟩ 1 1 [.int .i64 (n : Int), .int .i64 (j : Int)] rfl rfl SRC.out (by simp [Value.oneCell']) (by unfold maxLen; omega) (by omega) (by have := HB.out.size; simp; omega) ?_
               intro v3 w3 ho3 hg3 _
               have hb3 : Below w.heap.size w w3 := (HB.out.alloc HB.out.size _).grown hg3 (by have := HB.out.size; simp; omega) (fun k e => (HV.out.lt k e).1)
               have HO3 := hid ho3
               have d0 := (hb3.cell (p := ⟨bd, 0, none⟩) hlt.1).trans h0
               have dc0 := (hb3.cell (p := ⟨bn, n * 4, none⟩) hlt.2).trans hc0
               have dc2 := (hb3.cell (p := ⟨bn, n * 4 + 2, none⟩) hlt.2).trans hc2
               have hrw := (Keeps.of_below (F := fun _ => False) hb3).row HROW.out (fun _ _ e => e)
               have cel : w3.cell? ⟨g, j, none⟩ = some (.int .i64 (c : Int)) := by
                 rw [hrw.cellAt j (by omega)]
                 simp [intsV, HC.out]
               have C := hid (IH.out c hcl hkc w3 (HD.out.below hb3))
               have HB3 := hid hb3
               clear ho3 hg3 hb3 hrw)
            | (go_at_call 132; refine C.out.mono ?_; rintro e w4 ⟨a4, c4, rfl, h4, hb4⟩
               obtain ⟨g4, rfl, hsrc⟩ := slice_some2 h4 hpos
               have hv4 := ownsRow_below HO3.out hb4
               have HB4 := hid (HB3.out.trans (hb4.mono HB3.out.size))
               have HSRC := hid hsrc
               clear h4 hb4 hsrc)
            | (at_builtin; refine wpList_append_own _ rfl (.tmp 42) (.tmp 55) 197 rfl w.heap.size 37 i0 (.agg #[.int .i64 0, .int .i64 0]) 2 16 Tryz.underlying197 hi hz0 hz1 hz2 rfl (by decide) v3 _ _ rfl hv4 ⟨g4, 0, none⟩ (plF s k c).length c4 (plV (plF s k c)) rfl (by simp; omega) HSRC.out (plV_one _) (by unfold maxLen; omega) (by omega) HB4.out.size ?_
               intro v5 w5 ho5 hg5 _
               have HO5 := hid ho5
               have HB5 := hid (HB4.out.grown hg5 HB4.out.size (fun k e => (hv4.lt k e).1))
               clear ho5 hg5 hv4))
          go_roundw
          case rel =>
            refine ⟨j + 1, v5, by omega, by go_num, rfl, ?_, HB5.out⟩
            rw [HUP.out]
            have e : plV (upTo n x.ks (plF s k) j ++ [(n, j)] ++ plF s k c) = plV (upTo n x.ks (plF s k) j) ++ [.int .i64 (n : Int), .int .i64 (j : Int)] ++ plV (plF s k c) := by simp [plV]
            rw [e, List.length_append, List.length_append]
            exact HO5.out
          case measure => simp [intOf]; omega
        · have hj3I : ¬ (j : Int) < (x.ks.length : Int) := by omega
          have hnone : x.ks[j]? = none := List.getElem?_eq_none (by omega)
          have HUP := hid (upTo_succ_none (n := n) (f := plF s k) hnone)
          cases ht : x.t with
          | true =>
            rw [ht] at hc0
            go_wp2_with (first
              | (go_at_call 168; refine CS.out.mono ?_; rintro e w' ⟨rfl, hw'⟩; replace hw' := hw'.symm; subst hw')
              | (at_builtin; refine wpList_append_own _ rfl (.tmp 14) (.tmp 18) 197 rfl w.heap.size 37 i0 (.agg #[.int .i64 0, .int .i64 0]) 2 16 Tryz.underlying197 hi hz0 hz1 hz2 rfl (by decide) u5 _ _ rfl (HV.out.alloc _) ⟨wr.heap.size, 0, none⟩ 1 1 [.int .i64 (n : Int), .int .i64 (j : Int)] rfl rfl SRC.out (by simp [Value.oneCell']) (by unfold maxLen; omega) (by omega) (by have := HB.out.size; simp; omega) ?_
                 intro v3 w3 ho3 hg3 _
                 have hb3 : Below w.heap.size w w3 := (HB.out.alloc HB.out.size _).grown hg3 (by have := HB.out.size; simp; omega) (fun k e => (HV.out.lt k e).1)
                 have HO3 := hid ho3
                 have d0 := (hb3.cell (p := ⟨bd, 0, none⟩) hlt.1).trans h0
                 have dc0 := (hb3.cell (p := ⟨bn, n * 4, none⟩) hlt.2).trans hc0
                 have HB3 := hid hb3
                 clear ho3 hg3 hb3))
            go_roundw
            case rel =>
              refine ⟨j + 1, v3, by omega, by go_num, rfl, ?_, HB3.out⟩
              rw [HUP.out]
              simpa [plV] using HO3.out
            case measure => simp [intOf]; omega
          | false =>
            rw [ht] at hc0
            go_wp2_with (first
              | (go_at_call 168; refine CS.out.mono ?_; rintro e w' ⟨rfl, hw'⟩; replace hw' := hw'.symm; subst hw')
              | (at_builtin; refine wpList_append_own _ rfl (.tmp 14) (.tmp 18) 197 rfl w.heap.size 37 i0 (.agg #[.int .i64 0, .int .i64 0]) 2 16 Tryz.underlying197 hi hz0 hz1 hz2 rfl (by decide) u5 _ _ rfl (HV.out.alloc _) ⟨wr.heap.size, 0, none⟩ 1 1 [.int .i64 (n : Int), .int .i64 (j : Int)] rfl rfl SRC.out (by simp [Value.oneCell']) (by unfold maxLen; omega) (by omega) (by have := HB.out.size; simp; omega) ?_
                 intro v3 w3 ho3 hg3 _
                 have hb3 : Below w.heap.size w w3 := (HB.out.alloc HB.out.size _).grown hg3 (by have := HB.out.size; simp; omega) (fun k e => (HV.out.lt k e).1)
                 have HO3 := hid ho3
                 have d0 := (hb3.cell (p := ⟨bd, 0, none⟩) hlt.1).trans h0
                 have dc0 := (hb3.cell (p := ⟨bn, n * 4, none⟩) hlt.2).trans hc0
                 have dc2 := (hb3.cell (p := ⟨bn, n * 4 + 2, none⟩) hlt.2).trans hc2
                 have HB3 := hid hb3
                 clear ho3 hg3 hb3))
            go_roundw
            case rel =>
              refine ⟨j + 1, v3, by omega, by go_num, rfl, ?_, HB3.out⟩
              rw [HUP.out]
              simpa [plV] using HO3.out
            case measure => simp [intOf]; omega
      · obtain rfl : j = sizeN x + 1 := by omega
        have hjI : ¬ ((sizeN x : Int) + 1 ≤ sizeN x) := by omega
        have hfin : plF s (k + 1) n = upTo n x.ks (plF s k) (sizeN x + 1) := by rw [plF, kidsOf_eq HX.out, sizeAt_eq HX.out]
        rw [← hfin] at hv
        obtain ⟨L, hLL⟩ : ∃ L, plF s (k + 1) n = L := ⟨_, rfl⟩
        rw [hLL] at hv
        have HLL := hid hLL
        obtain ⟨va, vc, hva⟩ := slice_form' hv
        subst hva
        clear hfin hLL
        have HV := hid hv
        have HB := hid hb
        clear hv hb
        go_wp2_with (go_at_call 168; refine CS.out.mono ?_; rintro e w' ⟨rfl, rfl⟩)
        go_ret
        rw [HLL.out]
        exact ⟨va, vc, rfl, HV.out, HB.out⟩
end
end Go.Proofs.YtabogkonklplcaaGreatDoor
