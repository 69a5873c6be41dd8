import Derived.Test.YtabogkonklplcaaGreatDoorL32
import Derived.Test.YtabogkonklplcaaGreatDoorL09
import Derived.Test.YtabogkonklplcaaGreatDoorL27
import Derived.Test.YtabogkonklplcaaGreatDoorL30
import Derived.Test.YtabogkonklplcaaGreatDoorL28
import Derived.Test.YtabogkonklplcaaGreatDoorL24
import Derived.Test.YtabogkonklplcaaGreatDoorL33

namespace Go.Proofs.YtabogkonklplcaaGreatDoor
open Go.RowKit
set_option linter.unusedSimpArgs false
set_option linter.unusedVariables false
section
variable {F : Nat → Prop} {bf bn cap : Nat} {pn : List PN} {s : List Nd}
theorem write_any {B b : Nat} (wf : WF s) {h : Nat → Nat} {H : Nat} (u : Up s h H) (hF : ∀ b, F b → b < B) : ∀ (k n : Nat), n < s.length → h n < k → ∀ (w : World) (acc : ByteArray), PForAt w F bf bn cap pn s → Bld B b (Lib.strCells acc) w → B ≤ w.heap.size → acc.size + (shownF s k n).size + 20 < lots →
    Calls Tryz.prog 147 #[ptr bf, ptr b, .int .i64 n] w (Wrote B b (acc ++ shownF s k n) w) := by
  intro k
  induction k with
  | zero => intro n _ hk; omega
  | succ k ih =>
    intro n hn hk w acc hD hb hBw hlen
    have hx : s[n]? = some s[n] := List.getElem?_eq_getElem hn
    generalize s[n] = x at hx
    have h40 := wf.cap
    have hch := wf.chars n x hx
    have hkl : x.ks.length ≤ 40 := nodup_length 40 _ (wf.nodup n x hx) (fun c hc => by have := (wf.kid_lt u hx hc).1; omega)
    simp only [shownF, hx] at hlen ⊢
    cases ht : x.t with
    | true =>
      rw [ht, if_pos rfl, ByteArray.size_append] at hlen
      rw [if_pos rfl]
      exact write_text hD hF n x hx ht (by omega) acc hb hBw hch.2 (by omega)
    | false =>
      rw [ht, if_neg (by decide), ByteArray.size_append] at hlen
      rw [if_neg (by decide)]
      refine write_elem hD hF n x (shownF s k) hx ht (by omega) (by unfold lots; omega) acc hb hBw (by omega) (fun c hc w1 a1 h1 h2 h3 h4 => ?_)
      have := wf.kid_lt u hx hc
      exact ih c this.1 (by omega) w1 a1 h1 h2 h3 h4
variable {w : World}
set_option maxHeartbeats 1000000 in
theorem tshow_yes (wf : WF s) (hD : PFor w F bf s) (n : Nat) (hn : n < s.length) (t : ByteArray) (ht : Lim (fun k => shownF s k n) t) : Calls Tryz.prog 95 #[ptr bf, .int .i64 n] w (TPost F w bf s (.tuple #[.string t, .nilIface])) := by
  have HD := hid hD
  obtain ⟨h, H, u⟩ := wf.up
  obtain ⟨bn, cap, pn, hD⟩ := hD.narrow
  have C := hid (find_yes hD n (isB_of (by omega)))
  have hal := all_length wf (h n + 1) n hn
  have hsz := shown_size wf u (h n + 1) n hn (by omega)
  have e := (shown_lim wf u (k := h n + 1) (n := n) (by omega)).unique ht
  have hb0 : Bld w.heap.size w.heap.size (Lib.strCells ⟨#[]⟩) (w.alloc (.cells #[.pointer none, .slice none 0 0] 219)) :=
    .inl ⟨Nat.le_refl _, .slice none 0 0, heap_alloc_new w _, World.ownsRow_nil _ _ _ _, fun e => by cases e⟩
  have hbl : Below w.heap.size w (w.alloc (.cells #[.pointer none, .slice none 0 0] 219)) := (Below.refl _ w).alloc (Nat.le_refl _) _
  have CW := hid (write_any (B := w.heap.size) wf u (fun b hb => hb.2) (h n + 1) n hn (by omega) _ ⟨#[]⟩ (hD.under (fun b hb => hb.2) hbl) hb0 (by simp) (by unfold lots; have : (⟨#[]⟩ : ByteArray).size = 0 := rfl; omega))
  rw [e, show (⟨#[]⟩ : ByteArray) ++ t = t from by show ByteArray.empty ++ t = t; simp] at CW
  have HB := hid hbl
  clear hD hal hsz e hb0 hbl ht
  go_enter Tryz.func95, Tryz.ntmps95
  go_wp2_with first
    | (go_at_call 87; refine C.out.mono ?_; rintro e w1 ⟨rfl, rfl⟩)
    | (go_at_call 147; refine CW.out.mono ?_; rintro e w2 ⟨rfl, hu2, hb2⟩
       have hs2 := hb2.size
       have CS := hid (Tryz.Builder_String_any _ _ t.data.toList w2 (bld_of hu2) (by have := HB.out.size; omega)))
    | (go_at_call 148; refine CS.out.mono ?_; rintro e w3 ⟨rfl, hb3⟩)
  go_ret2
  have hb4 := HB.out.trans (hb2.trans hb3)
  exact ⟨rfl, Keeps.of_below hb4, (HD.out.below hb4).wider (fun b h => .inl h)⟩
end
end Go.Proofs.YtabogkonklplcaaGreatDoor

namespace Go.Proofs.YtabogkonklplcaaGreatDoor
open Go.RowKit
set_option linter.unusedSimpArgs false
set_option linter.unusedVariables false
theorem way_pl {s : List Nd} (wf : WF s) {h : Nat → Nat} {B : Nat} (u : Up s h B) {t n k : Nat} {l : List Nat} (wy : Way s t n l) (hk : k ≤ sizeAt s n) : (n, k) ∈ plF s (B + 1) t := by
  have h1 := way_len wf u wy
  have h2 := u.le t
  have h3 := way_pp wf wy (B - l.length + 1) _ (pp_here (k := B - l.length) hk)
  have e : B - l.length + 1 + l.length = B + 1 := by omega
  rw [e] at h3
  rw [← pp_fst]
  exact List.mem_map.2 ⟨_, h3, rfl⟩
theorem lexC_of_leP {l l2 : List Nat} {k k2 : Nat} (h : leP (pw l k) (pw l2 k2)) : lexC (l ++ [k]) (l2 ++ [k2]) ≤ 0 := by
  rcases h with h | h
  · rw [pw_inj h, lexC_self]; exact Int.le_refl 0
  · rw [lexC_lt _ _ _ _ h]; decide
structure SpAt (s : List Nd) (B : Nat) (z : Sp) (a b c d t i j : Nat) : Prop where
  eq : z = ⟨a, b, c, d⟩
  ha : a < s.length
  hc : c < s.length
  ta : IsTop s a t
  tc : IsTop s c t
  hb : b ≤ sizeAt s a
  hd : d ≤ sizeAt s c
  hi : (plF s (B + 1) t)[i]? = some (a, b)
  hj : (plF s (B + 1) t)[j]? = some (c, d)
  hij : i ≤ j
theorem spIs_at {s : List Nd} (wf : WF s) {h : Nat → Nat} {B : Nat} (u : Up s h B) {z : Sp} (hz : SpIs s z) : ∃ a b c d t i j, SpAt s B z a b c d t i j := by
  obtain ⟨a, b, c, d, t, l, l2, rfl, h1, h2, ta, wa, wc, hle⟩ := hz
  obtain ⟨a', b', ea, eb, ha, hb⟩ := h1
  obtain ⟨c', d', ec, ed, hc, hd⟩ := h2
  obtain rfl : a = a' := by omega
  obtain rfl : b = b' := by omega
  obtain rfl : c = c' := by omega
  obtain rfl : d = d' := by omega
  obtain ⟨x, hx, hp⟩ := ta.2
  have tc := way_top wf wc hx hp
  obtain ⟨i, ei, hi⟩ := wh_mem (way_pl wf u wa hb)
  obtain ⟨j, ej, hj⟩ := wh_mem (way_pl wf u wc hd)
  refine ⟨a, b, c, d, t, i, j, rfl, ha, hc, ta, tc, hb, hd, hi, hj, ?_⟩
  have := lexC_of_leP hle
  rw [cmp_ways wf u wa wc hb hd (wh_is _ _) (wh_is _ _), ei, ej] at this
  rcases Nat.lt_or_ge j i with h | h
  · rw [if_neg (by omega), if_pos (by omega)] at this
    omega
  · exact h
end Go.Proofs.YtabogkonklplcaaGreatDoor
