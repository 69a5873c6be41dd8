import Derived.Test.YtabogkonklplcaaGreatDoorB47
import Derived.Test.YtabogkonklplcaaGreatDoorB34
import Derived.Test.YtabogkonklplcaaGreatDoorB35
import Derived.Test.YtabogkonklplcaaGreatDoorB28

/- The document's answers at Remove. -/
namespace Go.Proofs.YtabogkonklplcaaGreatDoor
open Go.RowKit
set_option linter.unusedSimpArgs false
set_option linter.unusedVariables false

theorem ans_remove (s : List Nd) (wf : WF s) (A : Int) : Ans PDoc GG ⟨s, []⟩ 60 76 [.int .i64 A] (fun v => v) (fun v => v) := by
  have hcap := wf.cap
  cases hA : isB s A with
  | false =>
    refine ⟨A, 1, ⟨s, []⟩, ⟨wf, rfl⟩, ?_, ?_⟩
    · intro w F bx hg hP
      exact mremove_no hg hP A (errOf_P A 1 (by decide)) (fun F' bf h => tremove_node h A hA)
    · intro w F bd hR
      have hR' := hR
      obtain ⟨bn, cap, rn, rv, hD⟩ := hR
      exact (rremove_node hD A hA).mono fun e w' ⟨h1, h2⟩ => ⟨h1, Keeps.of_below h2, hR'.after h2⟩
  | true =>
    obtain ⟨h1, h2⟩ := isB_true hA
    obtain ⟨i, rfl⟩ : ∃ i : Nat, A = (i : Int) := ⟨A.toNat, by omega⟩
    have hi : i < s.length := by omega
    obtain ⟨x, hx⟩ : ∃ x, s[i]? = some x := ⟨_, List.getElem?_eq_getElem hi⟩
    by_cases hp : 0 ≤ x.p
    · obtain ⟨j, m, y, hj, hy, hm, hno, hyl⟩ := wf.place hx hp
      obtain ⟨hij, hwf⟩ := wf_remove wf hx hj hy hm
      obtain ⟨hh2, HH2, u2⟩ := hwf.up
      refine ⟨0, 0, ⟨_, []⟩, ⟨hwf, rfl⟩, ?_, ?_⟩
      · intro w F bx hg hP
        exact mremove_of hg hP i (fun F' bf h => (tremove_done h i j m x y hx hj hy hm hno hij (by unfold lots; omega) (by unfold lots; omega) hwf u2).mono fun e w2 h2 => h2.move)
      · rintro w F bd ⟨bn, cap, rn, rv, hD⟩
        exact (rremove_done hD i j m x y hx hj hy hm hno (by unfold lots; omega) hij).mono fun e w' h => h
    · have hp1 : x.p = -1 := by
        rcases wf.par i x hx with h | ⟨j, y, h, _⟩
        · exact h
        · omega
      refine ⟨i, 4, ⟨s, []⟩, ⟨wf, rfl⟩, ?_, ?_⟩
      · intro w F bx hg hP
        exact mremove_no hg hP i (errOf_P i 4 (by decide)) (fun F' bf h => tremove_none h i x hx hp1 (by unfold lots; omega))
      · intro w F bd hR
        have hR' := hR
        obtain ⟨bn, cap, rn, rv, hD⟩ := hR
        exact (rremove_none hD i x hx (by omega)).mono fun e w' ⟨h1, h2⟩ => ⟨h1, Keeps.of_below h2, hR'.after h2⟩

end Go.Proofs.YtabogkonklplcaaGreatDoor

/- tree.Show; the document's answers at Show. -/
namespace Go.Proofs.YtabogkonklplcaaGreatDoor
open Go.RowKit
set_option linter.unusedSimpArgs false
set_option linter.unusedVariables false

section
variable {F : Nat → Prop} {bf bn cap : Nat} {pn : List PN} {s : List Nd}

theorem write_any {B b : Nat} (wf : WF s) {h : Nat → Nat} {H : Nat} (u : Up s h H) (hF : ∀ b, F b → b < B) : ∀ (k n : Nat), n < s.length → h n < k → ∀ (w : World) (acc : ByteArray), PForAt w F bf bn cap pn s → Bld B b (Lib.strCells acc) w → B ≤ w.heap.size → acc.size + (shownF s k n).size + 20 < lots →
    Calls Tryz.prog 147 #[ptr bf, ptr b, .int .i64 n] w (Wrote B b (acc ++ shownF s k n) w) := by
  intro k
  induction k with
  | zero => intro n _ hk; omega
  | succ k ih =>
    intro n hn hk w acc hD hb hBw hlen
    have hx : s[n]? = some s[n] := List.getElem?_eq_getElem hn
    generalize s[n] = x at hx
    have h40 := wf.cap
    have hch := wf.chars n x hx
    have hkl : x.ks.length ≤ 40 := nodup_length 40 _ (wf.nodup n x hx) (fun c hc => by have := (wf.kid_lt u hx hc).1; omega)
    simp only [shownF, hx] at hlen ⊢
    cases ht : x.t with
    | true =>
      rw [ht, if_pos rfl, ByteArray.size_append] at hlen
      rw [if_pos rfl]
      exact write_text hD hF n x hx ht (by omega) acc hb hBw hch.2 (by omega)
    | false =>
      rw [ht, if_neg (by decide), ByteArray.size_append] at hlen
      rw [if_neg (by decide)]
      refine write_elem hD hF n x (shownF s k) hx ht (by omega) (by unfold lots; omega) acc hb hBw (by omega) (fun c hc w1 a1 h1 h2 h3 h4 => ?_)
      have := wf.kid_lt u hx hc
      exact ih c this.1 (by omega) w1 a1 h1 h2 h3 h4

variable {w : World}

set_option maxHeartbeats 400000 in
theorem tshow_no (hD : PFor w F bf s) (n : Int) (h : isB s n = false) : Calls Tryz.prog 95 #[ptr bf, .int .i64 n] w (TPost F w bf s (.tuple #[.string ⟨#[]⟩, refusalV n 1])) := by
  have HD := hid hD
  obtain ⟨bn, cap, pn, hD⟩ := hD
  have C := hid (find_no hD n h)
  clear hD h
  go_enter Tryz.func95, Tryz.ntmps95
  go_wp2_with (go_at_call 87; refine C.out.mono ?_; rintro e w1 ⟨rfl, rfl⟩)
  go_ret2
  exact ⟨rfl, Keeps.refl _ _, HD.out.wider (fun b h => .inl h)⟩

set_option maxHeartbeats 1000000 in
theorem tshow_yes (wf : WF s) (hD : PFor w F bf s) (n : Nat) (hn : n < s.length) (t : ByteArray) (ht : Lim (fun k => shownF s k n) t) : Calls Tryz.prog 95 #[ptr bf, .int .i64 n] w (TPost F w bf s (.tuple #[.string t, .nilIface])) := by
  have HD := hid hD
  obtain ⟨h, H, u⟩ := wf.up
  obtain ⟨bn, cap, pn, hD⟩ := hD.narrow
  have C := hid (find_yes hD n (isB_of (by omega)))
  have hal := all_length wf (h n + 1) n hn
  have hsz := shown_size wf u (h n + 1) n hn (by omega)
  have e := (shown_lim wf u (k := h n + 1) (n := n) (by omega)).unique ht
  have hb0 : Bld w.heap.size w.heap.size (Lib.strCells ⟨#[]⟩) (w.alloc (.cells #[.pointer none, .slice none 0 0] 219)) :=
    .inl ⟨Nat.le_refl _, .slice none 0 0, heap_alloc_new w _, World.ownsRow_nil _ _ _ _, fun e => by cases e⟩
  have hbl : Below w.heap.size w (w.alloc (.cells #[.pointer none, .slice none 0 0] 219)) := (Below.refl _ w).alloc (Nat.le_refl _) _
  have CW := hid (write_any (B := w.heap.size) wf u (fun b hb => hb.2) (h n + 1) n hn (by omega) _ ⟨#[]⟩ (hD.under (fun b hb => hb.2) hbl) hb0 (by simp) (by unfold lots; have : (⟨#[]⟩ : ByteArray).size = 0 := rfl; omega))
  rw [e, show (⟨#[]⟩ : ByteArray) ++ t = t from by show ByteArray.empty ++ t = t; simp] at CW
  have HB := hid hbl
  clear hD hal hsz e hb0 hbl ht
  go_enter Tryz.func95, Tryz.ntmps95
  go_wp2_with first
    | (go_at_call 87; refine C.out.mono ?_; rintro e w1 ⟨rfl, rfl⟩)
    | (go_at_call 147; refine CW.out.mono ?_; rintro e w2 ⟨rfl, hu2, hb2⟩
       have hs2 := hb2.size
       have CS := hid (Tryz.Builder_String_any _ _ t.data.toList w2 (bld_of hu2) (by have := HB.out.size; omega)))
    | (go_at_call 148; refine CS.out.mono ?_; rintro e w3 ⟨rfl, hb3⟩)
  go_ret2
  have hb4 := HB.out.trans (hb2.trans hb3)
  exact ⟨rfl, Keeps.of_below hb4, (HD.out.below hb4).wider (fun b h => .inl h)⟩
end

theorem ans_show (s : List Nd) (wf : WF s) (A : Int) : ∃ b : ByteArray, Ans PDoc GG ⟨s, []⟩ 55 77 [.int .i64 A] (fun v => .tuple #[.string b, v]) (fun v => .tuple #[.string b, v]) := by
  cases hA : isB s A with
  | false =>
    refine ⟨⟨#[]⟩, A, 1, ⟨s, []⟩, ⟨wf, rfl⟩, ?_, ?_⟩
    · intro w F bx hg hP
      exact mshow_of hg hP A (errOf_P A 1 (by decide)) (fun F' bf h => tshow_no h A hA)
    · intro w F bd hR
      have hR' := hR
      obtain ⟨bn, cap, rn, rv, hD⟩ := hR
      exact (rshow_no hD A hA).mono fun e w' ⟨h1, h2⟩ => ⟨h1, Keeps.of_below h2, hR'.after h2⟩
  | true =>
    obtain ⟨h1, h2⟩ := isB_true hA
    obtain ⟨i, rfl⟩ : ∃ i : Nat, A = (i : Int) := ⟨A.toNat, by omega⟩
    have hi : i < s.length := by omega
    obtain ⟨h, H, u⟩ := wf.up
    have hl := shown_lim wf u (k := h i + 1) (n := i) (by omega)
    refine ⟨shownF s (h i + 1) i, 0, 0, ⟨s, []⟩, ⟨wf, rfl⟩, ?_, ?_⟩
    · intro w F bx hg hP
      exact mshow_of hg hP i (errOf_nil 0) (fun F' bf h => tshow_yes wf h i hi _ hl)
    · intro w F bd hR
      have hR' := hR
      obtain ⟨bn, cap, rn, rv, hD⟩ := hR
      exact (rshow_yes wf hD i hi _ hl).mono fun e w' ⟨h1, h2⟩ => ⟨h1, Keeps.of_below h2, hR'.after h2⟩

end Go.Proofs.YtabogkonklplcaaGreatDoor

/- Trees, from what Insert answers: all else is here. -/
namespace Go.Proofs.YtabogkonklplcaaGreatDoor
open Go.RowKit

theorem answers_of (hI : ∀ s, WF s → ∀ A B C : Int, Ans PDoc GG ⟨s, []⟩ 54 75 [.int .i64 A, .int .i64 B, .int .i64 C] (fun v => v) (fun v => v)) : Answers PDoc GG where
  pd := pdoc_ok
  gb := fun _ _ h hb => h.below hb
  new := mnew_ok
  element := fun ⟨s, r⟩ ⟨wf, hr⟩ => by cases hr; exact ans_element s wf
  text := fun ⟨s, r⟩ ⟨wf, hr⟩ S hS => by cases hr; exact ans_text s wf S hS
  insert := fun ⟨s, r⟩ ⟨wf, hr⟩ A B C => by cases hr; exact hI s wf A B C
  remove := fun ⟨s, r⟩ ⟨wf, hr⟩ A => by cases hr; exact ans_remove s wf A
  shown := fun ⟨s, r⟩ ⟨wf, hr⟩ A => by cases hr; exact ans_show s wf A

theorem trees_of (hI : ∀ s, WF s → ∀ A B C : Int, Ans PDoc GG ⟨s, []⟩ 54 75 [.int .i64 A, .int .i64 B, .int .i64 C] (fun v => v) (fun v => v)) : Rows.TreesUptoCardSaid :=
  trees_card (answers_of hI) gg_of_laid

end Go.Proofs.YtabogkonklplcaaGreatDoor
