import Derived.Test.YtabogkonklplcaaGreatDoorV36
import Derived.Test.YtabogkonklplcaaGreatDoorV08
import Derived.Test.YtabogkonklplcaaGreatDoorV22
import Derived.Test.YtabogkonklplcaaGreatDoorV30
import Derived.Test.YtabogkonklplcaaGreatDoorV10
import Derived.Test.YtabogkonklplcaaGreatDoorV29
import Derived.Test.YtabogkonklplcaaGreatDoorV19

namespace Go.Proofs.YtabogkonklplcaaGreatDoor
open Go.RowKit
set_option linter.unusedSimpArgs false
set_option linter.unusedVariables false
section
variable {F : Nat → Prop} {bf bn cap : Nat} {pn : List PN} {s : List Nd}
theorem write_any {B b : Nat} (wf : WF s) {h : Nat → Nat} {H : Nat} (u : Up s h H) (hF : ∀ b, F b → b < B) : ∀ (k n : Nat), n < s.length → h n < k → ∀ (w : World) (acc : ByteArray), PForAt w F bf bn cap pn s → Bld B b (Lib.strCells acc) w → B ≤ w.heap.size → acc.size + (shownF s k n).size + 20 < lots →
    Calls Tryz.prog 147 #[ptr bf, ptr b, .int .i64 n] w (Wrote B b (acc ++ shownF s k n) w) := by
  intro k
  induction k with
  | zero => intro n _ hk; omega
  | succ k ih =>
    intro n hn hk w acc hD hb hBw hlen
    have hx : s[n]? = some s[n] := List.getElem?_eq_getElem hn
    generalize s[n] = x at hx
    have h40 := wf.cap
    have hch := wf.chars n x hx
    have hkl : x.ks.length ≤ 40 := nodup_length 40 _ (wf.nodup n x hx) (fun c hc => by have := (wf.kid_lt u hx hc).1; omega)
    simp only [shownF, hx] at hlen ⊢
    cases ht : x.t with
    | true =>
      rw [ht, if_pos rfl, ByteArray.size_append] at hlen
      rw [if_pos rfl]
      exact write_text hD hF n x hx ht (by omega) acc hb hBw hch.2 (by omega)
    | false =>
      rw [ht, if_neg (by decide), ByteArray.size_append] at hlen
      rw [if_neg (by decide)]
      refine write_elem hD hF n x (shownF s k) hx ht (by omega) (by unfold lots; omega) acc hb hBw (by omega) (fun c hc w1 a1 h1 h2 h3 h4 => ?_)
      have := wf.kid_lt u hx hc
      exact ih c this.1 (by omega) w1 a1 h1 h2 h3 h4
variable {w : World}
set_option maxHeartbeats 1000000 in
theorem tshow_yes (wf : WF s) (hD : PFor w F bf s) (n : Nat) (hn : n < s.length) (t : ByteArray) (ht : Lim (fun k => shownF s k n) t) : Calls Tryz.prog 95 #[ptr bf, .int .i64 n] w (TPost F w bf s (.tuple #[.string t, .nilIface])) := by
  have HD := hid hD
  obtain ⟨h, H, u⟩ := wf.up
  obtain ⟨bn, cap, pn, hD⟩ := hD.narrow
  have C := hid (find_yes hD n (isB_of (by omega)))
  have hal := all_length wf (h n + 1) n hn
  have hsz := shown_size wf u (h n + 1) n hn (by omega)
  have e := (shown_lim wf u (k := h n + 1) (n := n) (by omega)).unique ht
  have hb0 : Bld w.heap.size w.heap.size (Lib.strCells ⟨#[]⟩) (w.alloc (.cells #[.pointer none, .slice none 0 0] 219)) :=
    .inl ⟨Nat.le_refl _, .slice none 0 0, heap_alloc_new w _, World.ownsRow_nil _ _ _ _, fun e => by cases e⟩
  have hbl : Below w.heap.size w (w.alloc (.cells #[.pointer none, .slice none 0 0] 219)) := (Below.refl _ w).alloc (Nat.le_refl _) _
  have CW := hid (write_any (B := w.heap.size) wf u (fun b hb => hb.2) (h n + 1) n hn (by omega) _ ⟨#[]⟩ (hD.under (fun b hb => hb.2) hbl) hb0 (by simp) (by unfold lots; have : (⟨#[]⟩ : ByteArray).size = 0 := rfl; omega))
  rw [e, show (⟨#[]⟩ : ByteArray) ++ t = t from by show ByteArray.empty ++ t = t; simp] at CW
  have HB := hid hbl
  clear hD hal hsz e hb0 hbl ht
  go_enter Tryz.func95, Tryz.ntmps95
  go_wp2_with first
    | (go_at_call 87; refine C.out.mono ?_; rintro e w1 ⟨rfl, rfl⟩)
    | (go_at_call 147; refine CW.out.mono ?_; rintro e w2 ⟨rfl, hu2, hb2⟩
       have hs2 := hb2.size
       have CS := hid (Tryz.Builder_String_any _ _ t.data.toList w2 (bld_of hu2) (by have := HB.out.size; omega)))
    | (go_at_call 148; refine CS.out.mono ?_; rintro e w3 ⟨rfl, hb3⟩)
  go_ret2
  have hb4 := HB.out.trans (hb2.trans hb3)
  exact ⟨rfl, Keeps.of_below hb4, (HD.out.below hb4).wider (fun b h => .inl h)⟩
end
end Go.Proofs.YtabogkonklplcaaGreatDoor

namespace Go.Proofs.YtabogkonklplcaaGreatDoor
set_option linter.unusedSimpArgs false
set_option linter.unusedVariables false
theorem leP_append (C : List Nat) {P Q : List Nat} (h : leP P Q) : leP (C ++ P) (C ++ Q) := by
  induction C with
  | nil => exact h
  | cons a C ih => exact leP_cons ih
theorem way_climb {s : List Nd} (wf : WF s) {t n : Nat} {l : List Nat} (w : Way s t n l) : ∃ q, climb s q n = (t : Int) := by
  induction w with
  | top => exact ⟨0, rfl⟩
  | @down q c i l y w hq hi ih =>
    obtain ⟨m, hm⟩ := ih
    obtain ⟨z, hz, hzp⟩ := wf.kid q y hq c (List.mem_of_getElem? hi)
    have h1 : climb s 1 c = (q : Int) := by simp [climb, parOf, hz, hzp]
    exact ⟨1 + m, by rw [climb_add h1 m]; exact hm⟩
theorem way_lt {s : List Nd} (wf : WF s) {t n : Nat} {l : List Nat} (w : Way s t n l) (ht : t < s.length) : n < s.length := by
  cases w with
  | top => exact ht
  | @down q c i l y w hq hi =>
    obtain ⟨z, hz, _⟩ := wf.kid q y hq n (List.mem_of_getElem? hi)
    exact (List.getElem?_eq_some_iff.1 hz).1
theorem Moves.still {s s' : List Nd} {t : Nat} {f : Mvf} (hp : ∀ (n k : Nat) (l : List Nat), PlOk s n k → Way s t n l → f n k = ((n : Int), (k : Int)) ∧ PlOk s' n k) (top : ∃ x, s'[t]? = some x ∧ x.p = -1)
    (h : ∀ (q : Nat) (l : List Nat) (y : Nd), Way s t q l → s[q]? = some y → ∃ y', s'[q]? = some y' ∧ y'.ks = y.ks) : Moves s s' t t f (fun P => P) where
  mono := fun P Q _ _ h => .inr h
  top := top
  one := fun n k l hk w => ⟨n, k, l, (hp n k l hk w).1, (hp n k l hk w).2, w.same h, rfl⟩
theorem spIs_push {s : List Nd} {z : Sp} (nd : Nd) (wf : WF s) (h : SpIs s z) : SpIs (s ++ [nd]) z := by
  obtain ⟨n, k, n2, k2, t, l, l2, rfl, h1, h2, ht, w1, w2, hle⟩ := h
  have same : ∀ (q : Nat) (y : Nd), s[q]? = some y → (s ++ [nd])[q]? = some y := fun q y hq => by
    rw [List.getElem?_append_left (List.getElem?_eq_some_iff.1 hq).1]; exact hq
  have hw : ∀ {n l}, Way s t n l → Way (s ++ [nd]) t n l := fun w => w.same (fun q l y _ hq => ⟨y, same q y hq, rfl⟩)
  refine ⟨n, k, n2, k2, t, l, l2, rfl, h1.push nd, h2.push nd, ?_, hw w1, hw w2, hle⟩
  obtain ⟨⟨m, hm⟩, x, hx, hp⟩ := ht
  refine ⟨?_, x, same t x hx, hp⟩
  have key : ∀ (m n : Nat), n < s.length → climb s m n = (t : Int) → ∃ m', climb (s ++ [nd]) m' n = (t : Int) := by
    intro m
    induction m with
    | zero => intro n _ h; exact ⟨0, by simpa [climb] using h⟩
    | succ m ih =>
      intro n hn h
      have hx := List.getElem?_eq_getElem hn
      rcases wf.par n _ hx with hp | ⟨i, y, hp, hy, hc⟩
      · exfalso
        have h1 : climb s 1 n = -1 := by simp [climb, parOf, hx, hp]
        have h2 := climb_neg (s := s) (j := 1) (n := n) (by rw [h1]; decide) m
        rw [Nat.add_comm] at h2
        omega
      · have h1 : climb s 1 n = (i : Int) := by simp [climb, parOf, hx, hp]
        have h2 := climb_add h1 m
        rw [Nat.add_comm] at h2
        rw [h2] at h
        obtain ⟨m', hm'⟩ := ih i (List.getElem?_eq_some_iff.1 hy).1 h
        have h3 : climb (s ++ [nd]) 1 n = (i : Int) := by simp [climb, parOf, same n _ hx, hp]
        exact ⟨1 + m', by rw [climb_add h3 m']; exact hm'⟩
  obtain ⟨n0, k0, e1, e2, hn, _⟩ := h1
  exact key m n (by omega) hm
section
variable {s : List Nd} {i j k : Nat} {x y : Nd}
def gIns (k : Nat) : List Nat → List Nat
  | [] => []
  | a :: r => (if 2 * k < a then a + 2 else a) :: r
theorem gIns_mono (k : Nat) (R R' : List Nat) (h : lexN R R') : leP (gIns k R) (gIns k R') := by
  cases R' with
  | nil => exact absurd h (fun h => lexN_nil h)
  | cons b R' =>
    cases R with
    | nil => exact .inr .nil
    | cons a R =>
      rcases lexN_cons h with hab | ⟨rfl, h'⟩
      · refine .inr (.rel ?_)
        show (if 2 * k < a then a + 2 else a) < (if 2 * k < b then b + 2 else b)
        split <;> split <;> omega
      · exact .inr (.cons h')
theorem ins_get (ks : List Nat) (k c d j : Nat) (h : ks[c]? = some d) : (ks.take k ++ j :: ks.drop k)[if k ≤ c then c + 1 else c]? = some d := by
  have hc := (List.getElem?_eq_some_iff.1 h).1
  by_cases hk : k ≤ c
  · rw [if_pos hk, List.getElem?_append_right (by simp; omega)]
    have e : c + 1 - (ks.take k).length = (c - k) + 1 := by simp; omega
    rw [e, List.getElem?_cons_succ, List.getElem?_drop]
    rw [show k + (c - k) = c by omega]
    exact h
  · rw [if_neg hk, List.getElem?_append_left (by simp; omega), List.getElem?_take, if_pos (by omega)]
    exact h
theorem moves_insert (wf : WF s) (hI : InsOk s i j x y) (hw : Lim (fun c => withinF s c (i : Int) (j : Int)) false) (hk : k ≤ x.ks.length) (hij : i ≠ j) (t : Nat) (ht : ∃ z, s[t]? = some z ∧ z.p = -1) :
    ∃ t' E, Moves s ((s.set i { x with ks := x.ks.take k ++ j :: x.ks.drop k }).set j { y with p := i }) t t' (shiftF i k 1) E := by
  obtain ⟨hx, hy, hxt, hj0, hyp⟩ := hI
  have hil := (List.getElem?_eq_some_iff.1 hx).1
  have hjl := (List.getElem?_eq_some_iff.1 hy).1
  obtain ⟨h, B, u⟩ := wf.up
  obtain ⟨ti, hti⟩ := top_there wf i hil
  obtain ⟨li, wi⟩ := way_to wf hti hil
  obtain ⟨xt, hxt', hpt⟩ := hti.2
  have hpl : ∀ (a b : Int), PlOk s a b → PlOk ((s.set i { x with ks := x.ks.take k ++ j :: x.ks.drop k }).set j { y with p := i }) (shiftF i k 1 a b).1 (shiftF i k 1 a b).2 := fun a b hp => hp.insert hx hy hij hxt hk
  have gi : ((s.set i { x with ks := x.ks.take k ++ j :: x.ks.drop k }).set j { y with p := i })[i]? = some { x with ks := x.ks.take k ++ j :: x.ks.drop k } := by
    rw [List.getElem?_set_ne (fun e => hij e.symm), List.getElem?_set_self hil]
  have gj : ((s.set i { x with ks := x.ks.take k ++ j :: x.ks.drop k }).set j { y with p := i })[j]? = some { y with p := i } := by
    rw [List.getElem?_set_self (by simpa using hjl)]
  have go : ∀ q, q ≠ i → q ≠ j → ((s.set i { x with ks := x.ks.take k ++ j :: x.ks.drop k }).set j { y with p := i })[q]? = s[q]? := fun q h1 h2 => by
    rw [List.getElem?_set_ne (fun e => h2 e.symm), List.getElem?_set_ne (fun e => h1 e.symm)]
  have same : ∀ (q : Nat) (z : Nd), q ≠ i → s[q]? = some z → ∃ z', ((s.set i { x with ks := x.ks.take k ++ j :: x.ks.drop k }).set j { y with p := i })[q]? = some z' ∧ z'.ks = z.ks := fun q z hq hz => by
    by_cases hqj : q = j
    · subst hqj
      rw [hy] at hz
      cases hz
      exact ⟨_, gj, rfl⟩
    · exact ⟨z, by rw [go q hq hqj]; exact hz, rfl⟩
  have notin : ∀ l, ¬ Way s j i l := fun l w => by
    obtain ⟨q, hq⟩ := way_climb wf w
    have := (within_true_of_climb u q i j hil hq).unique hw
    cases this
  have htij : ti ≠ j := fun e => by subst e; exact notin li wi
  have topi : ∃ z, ((s.set i { x with ks := x.ks.take k ++ j :: x.ks.drop k }).set j { y with p := i })[ti]? = some z ∧ z.p = -1 := by
    by_cases e : ti = i
    · subst e
      rw [hx] at hxt'
      cases hxt'
      exact ⟨_, gi, hpt⟩
    · exact ⟨xt, by rw [go ti e htij]; exact hxt', hpt⟩
  have hway : ∀ {n l}, Way s ti n l → ∃ l', Way ((s.set i { x with ks := x.ks.take k ++ j :: x.ks.drop k }).set j { y with p := i }) ti n l' ∧ enc l' = under (enc li) (gIns k) (enc l) := fun w =>
    Way.moved wf ⟨xt, hxt', hpt⟩ wi (fun _ => False) (fun c => if k ≤ c then c + 1 else c) rfl (fun a r e => rfl)
      (fun c d z _ _ _ => by
        show [if 2 * k < 2 * c + 1 then 2 * c + 1 + 2 else 2 * c + 1] = [2 * (if k ≤ c then c + 1 else c) + 1]
        by_cases hc : k ≤ c
        · rw [if_pos (by omega), if_pos hc]
          exact congrArg (fun a => [a]) (by omega)
        · rw [if_neg (by omega), if_neg hc])
      (fun c d z hz hd _ => by
        rw [hx] at hz
        cases hz
        exact ⟨_, gi, ins_get x.ks k c d j hd⟩)
      (fun q c d z hq hz hd _ => by
        obtain ⟨z', h1, h2⟩ := same q z hq hz
        exact ⟨z', h1, by rw [h2]; exact hd⟩)
      (fun _ _ _ _ _ _ h => h) w (fun h => h)
  have hli : ∀ {l'}, Way ((s.set i { x with ks := x.ks.take k ++ j :: x.ks.drop k }).set j { y with p := i }) ti i l' → enc l' = under (enc li) (gIns k) (enc li) → l' = li := fun w e => by
    have h3 := under_at (enc li) (gIns k) []
    rw [List.append_nil] at h3
    rw [h3] at e
    exact enc_inj (by simpa [gIns] using e)
  by_cases h1 : t = ti
  · subst h1
    refine ⟨t, under (enc li) (gIns k), ⟨fun P Q hP hQ h => under_le2 (ok := fun _ => True) (fun R R' _ _ h => gIns_mono k R R' h) _ P Q (fun _ _ => trivial) (fun _ _ => trivial) h, topi, fun n m l hm w => ?_⟩⟩
    obtain ⟨l', w', e'⟩ := hway w
    have hp := hpl n m hm
    by_cases hn : n = i
    · subst hn
      obtain rfl := wi.only wf ⟨xt, hxt', hpt⟩ w
      obtain rfl := hli w' e'
      by_cases hkm : (k : Int) < (m : Int)
      · have e1 : shiftF n k 1 n m = ((n : Int), ((m + 1 : Nat) : Int)) := by simp [shiftF, hkm]
        rw [e1] at hp
        refine ⟨n, m + 1, l', e1, hp, w', ?_⟩
        rw [pw_eq, pw_eq, under_at]
        show enc l' ++ [2 * (m + 1)] = enc l' ++ [if 2 * k < 2 * m then 2 * m + 2 else 2 * m]
        rw [if_pos (by omega)]
        exact congrArg (fun a => enc l' ++ [a]) (by omega)
      · have e1 : shiftF n k 1 n m = ((n : Int), (m : Int)) := by simp [shiftF, hkm]
        rw [e1] at hp
        refine ⟨n, m, l', e1, hp, w', ?_⟩
        rw [pw_eq, under_at]
        show enc l' ++ [2 * m] = enc l' ++ [if 2 * k < 2 * m then 2 * m + 2 else 2 * m]
        rw [if_neg (by omega)]
    · have e1 : shiftF i k 1 n m = ((n : Int), (m : Int)) := by
        have : ¬ (n : Int) = (i : Int) := by omega
        simp [shiftF, this]
      rw [e1] at hp
      refine ⟨n, m, l', e1, hp, w', ?_⟩
      have hne : enc l ≠ enc li := fun e => hn (w.node (by rw [enc_inj e]; exact wi))
      rw [pw_eq, pw_eq, under_snoc0 (fun a r e => rfl) rfl _ _ _ hne, e']
  · have hni : ∀ (q : Nat) (l : List Nat), Way s t q l → q ≠ i := fun q l w e => by
      subst e
      obtain ⟨z, hz, hp⟩ := ht
      exact h1 ((way_top wf w hz hp).one hti)
    have hsh : ∀ (n m : Nat) (l : List Nat), Way s t n l → shiftF i k 1 n m = ((n : Int), (m : Int)) := fun n m l w => by
      have : ¬ (n : Int) = (i : Int) := by have := hni n l w; omega
      simp [shiftF, this]
    by_cases h2 : t = j
    · subst h2
      refine ⟨ti, fun P => enc li ++ (2 * k + 1) :: P, ⟨fun P Q _ _ h => leP_append _ (leP_cons (.inr h)), topi, fun n m l hm w => ?_⟩⟩
      have hp := hpl n m hm
      rw [hsh n m l w] at hp
      obtain ⟨l', w', e'⟩ := hway wi
      obtain rfl := hli w' e'
      have wj : Way ((s.set i { x with ks := x.ks.take k ++ t :: x.ks.drop k }).set t { y with p := i }) ti t (l' ++ [k]) := .down w' gi (by
        show (x.ks.take k ++ t :: x.ks.drop k)[k]? = some t
        rw [List.getElem?_append_right (by simp; omega)]
        have : k - (x.ks.take k).length = 0 := by simp; omega
        rw [this]; rfl)
      have wn := w.same (s' := (s.set i { x with ks := x.ks.take k ++ t :: x.ks.drop k }).set t { y with p := i }) (fun q l2 z wq hz => same q z (hni q l2 wq) hz)
      refine ⟨n, m, (l' ++ [k]) ++ l, hsh n m l w, hp, wj.append wn, ?_⟩
      simp [pw_eq, enc]
    · obtain ⟨z, hz, hzp⟩ := ht
      have hti' : t ≠ i := hni t [] .top
      exact ⟨t, _, Moves.still (fun n m l hm w => ⟨hsh n m l w, by have := hpl n m hm; rw [hsh n m l w] at this; exact this⟩) ⟨z, by rw [go t hti' h2]; exact hz, hzp⟩ (fun q l y w hq => same q y (hni q l w) hq)⟩
end
end Go.Proofs.YtabogkonklplcaaGreatDoor

namespace Go.Proofs.YtabogkonklplcaaGreatDoor
open Go.RowKit
set_option linter.unusedSimpArgs false
set_option linter.unusedVariables false
theorem PlOk.splitTop {s : List Nd} {n k : Nat} {x : Nd} (hx : s[n]? = some x) (ht : x.t = true) (hk : k ≤ x.cs.length) {a b : Int} (h : PlOk s a b) :
    PlOk ((s ++ [(⟨true, x.cs.drop k, [], -1⟩ : Nd)]).set n { x with cs := x.cs.take k }) (resizeF n k ((x.cs.length - k : Nat) : Int) 0 a b).1 (resizeF n k ((x.cs.length - k : Nat) : Int) 0 a b).2 := by
  have hn := (List.getElem?_eq_some_iff.1 hx).1
  have := (h.push (⟨true, x.cs.drop k, [], -1⟩ : Nd)).replace (i := n) (o := k) (c := x.cs.length - k) (x := x) (cs := x.cs.take k) (g := 0) (by rw [List.getElem?_append_left hn]; exact hx) ht (by omega) (by simp; omega)
  exact this
theorem PlOk.splitIn {s : List Nd} {n k j m : Nat} {x y : Nd} (hx : s[n]? = some x) (ht : x.t = true) (hk : k ≤ x.cs.length) (hy : s[j]? = some y) (hyt : y.t = false) (hm : m < y.ks.length) (hnj : n ≠ j) {a b : Int} (h : PlOk s a b) :
    PlOk ((((s ++ [(⟨true, x.cs.drop k, [], -1⟩ : Nd)]).set n { x with cs := x.cs.take k }).set j { y with ks := y.ks.take (m + 1) ++ s.length :: y.ks.drop (m + 1) }).set s.length { (⟨true, x.cs.drop k, [], -1⟩ : Nd) with p := j }) (carryF n k s.length (shiftF j m 1) a b).1 (carryF n k s.length (shiftF j m 1) a b).2 := by
  have hn := (List.getElem?_eq_some_iff.1 hx).1
  have hj := (List.getElem?_eq_some_iff.1 hy).1
  obtain ⟨c, d, rfl, rfl, hc, hd⟩ := h
  have hsn : sizeAt s n = x.cs.length := by rw [sizeAt_eq hx, sizeN_text ht]
  have hsj : sizeAt s j = y.ks.length := by rw [sizeAt_eq hy, sizeN_elem hyt]
  have hsz : ∀ q, sizeAt ((((s ++ [(⟨true, x.cs.drop k, [], -1⟩ : Nd)]).set n { x with cs := x.cs.take k }).set j { y with ks := y.ks.take (m + 1) ++ s.length :: y.ks.drop (m + 1) }).set s.length { (⟨true, x.cs.drop k, [], -1⟩ : Nd) with p := j }) q =
      if q = s.length then x.cs.length - k else if q = j then y.ks.length + 1 else if q = n then k else sizeAt (s ++ [(⟨true, x.cs.drop k, [], -1⟩ : Nd)]) q := by
    intro q
    rw [sizeAt_set (by simp), sizeAt_set (by simp; omega), sizeAt_set (by simp; omega)]
    rw [sizeN_text (x := { (⟨true, x.cs.drop k, [], -1⟩ : Nd) with p := j }) rfl, sizeN_elem (x := { y with ks := y.ks.take (m + 1) ++ s.length :: y.ks.drop (m + 1) }) hyt, sizeN_text (x := { x with cs := x.cs.take k }) ht]
    have e1 : (x.cs.drop k).length = x.cs.length - k := by simp
    have e2 : (y.ks.take (m + 1) ++ s.length :: y.ks.drop (m + 1)).length = y.ks.length + 1 := by simp; omega
    have e3 : (x.cs.take k).length = k := by simp; omega
    simp only [e1, e2, e3]
  have hlen : ((((s ++ [(⟨true, x.cs.drop k, [], -1⟩ : Nd)]).set n { x with cs := x.cs.take k }).set j { y with ks := y.ks.take (m + 1) ++ s.length :: y.ks.drop (m + 1) }).set s.length { (⟨true, x.cs.drop k, [], -1⟩ : Nd) with p := j }).length = s.length + 1 := by simp
  unfold carryF
  by_cases h1 : (c : Int) = (n : Int) ∧ (k : Int) < (d : Int)
  · rw [if_pos h1]
    obtain rfl : c = n := by omega
    refine ⟨s.length, d - k, rfl, by show (d : Int) - k = _; omega, by rw [hlen]; omega, ?_⟩
    rw [hsz, if_pos rfl]
    omega
  · rw [if_neg h1]
    have hcne : c ≠ s.length := by omega
    unfold shiftF
    by_cases h2 : (c : Int) = (j : Int) ∧ (m : Int) < (d : Int)
    · rw [if_pos h2]
      obtain rfl : c = j := by omega
      refine ⟨c, d + 1, rfl, rfl, by rw [hlen]; omega, ?_⟩
      rw [hsz, if_neg hcne, if_pos rfl]
      omega
    · rw [if_neg h2]
      refine ⟨c, d, rfl, rfl, by rw [hlen]; omega, ?_⟩
      rw [hsz, if_neg hcne]
      by_cases h3 : c = j
      · subst h3
        rw [if_pos rfl]
        omega
      · rw [if_neg h3]
        by_cases h4 : c = n
        · subst h4
          rw [if_pos rfl]
          omega
        · rw [if_neg h4, sizeAt_push _ hc]
          exact hd
end Go.Proofs.YtabogkonklplcaaGreatDoor

namespace Go.Proofs.YtabogkonklplcaaGreatDoor
set_option linter.unusedSimpArgs false
set_option linter.unusedVariables false
def gRem (m : Nat) : List Nat → List Nat
  | [] => []
  | a :: r => if a = 2 * m + 1 then [2 * m] else (if a ≤ 2 * m then a else a - 2) :: r
def gRem0 (m : Nat) : List Nat → List Nat
  | [] => []
  | a :: r => (if a ≤ 2 * m then a else a - 2) :: r
def evenEnd (R : List Nat) : Prop := ∀ a r, R = a :: r → a % 2 = 0 → r = []
theorem gRem_mono (m : Nat) (R R' : List Nat) (h1 : evenEnd R) (h2 : evenEnd R') (h : lexN R R') : leP (gRem m R) (gRem m R') := by
  cases R' with
  | nil => exact absurd h (fun h => lexN_nil h)
  | cons b R' =>
    cases R with
    | nil =>
      have : ∃ a Y, gRem m (b :: R') = a :: Y := by
        simp only [gRem]
        by_cases hb : b = 2 * m + 1 <;> simp [hb]
      obtain ⟨a, Y, e⟩ := this
      rw [e]
      exact .inr .nil
    | cons a R =>
      simp only [gRem]
      rcases lexN_cons h with hab | ⟨rfl, h'⟩
      · by_cases ha : a = 2 * m + 1
        · rw [if_pos ha, if_neg (by omega), if_neg (by omega)]
          by_cases hb : b = 2 * m + 2
          · have := h2 b R' rfl (by omega)
            subst this
            exact .inl (by rw [hb]; rfl)
          · exact .inr (.rel (by omega))
        · rw [if_neg ha]
          by_cases hb : b = 2 * m + 1
          · rw [if_pos hb, if_pos (by omega)]
            by_cases hc : a = 2 * m
            · have := h1 a R rfl (by omega)
              subst this
              exact .inl (by rw [hc])
            · exact .inr (.rel (by omega))
          · rw [if_neg hb]
            by_cases hc : a = 2 * m ∧ b = 2 * m + 2
            · have e1 := h1 a R rfl (by omega)
              have e2 := h2 b R' rfl (by omega)
              subst e1 e2
              rw [if_pos (by omega), if_neg (by omega)]
              exact .inl (by rw [hc.1, hc.2]; rfl)
            · refine .inr (.rel ?_)
              split <;> split <;> omega
      · by_cases ha : a = 2 * m + 1
        · rw [if_pos ha, if_pos ha]
          exact .inl rfl
        · rw [if_neg ha, if_neg ha]
          exact .inr (.cons h')
theorem under_rem (m : Nat) : ∀ (P1 P : List Nat), (∀ r, P ≠ P1 ++ (2 * m + 1) :: r) → under P1 (gRem m) P = under P1 (gRem0 m) P := by
  intro P1
  induction P1 with
  | nil =>
    intro P h
    cases P with
    | nil => rfl
    | cons a r =>
      have : ¬ a = 2 * m + 1 := fun e => h r (by rw [e]; rfl)
      simp [under, gRem, gRem0, this]
  | cons p P1 ih =>
    intro P h
    cases P with
    | nil => rfl
    | cons a r =>
      simp only [under]
      by_cases ha : a = p
      · subst ha
        simp only [if_true]
        rw [ih r (fun r' e => h r' (by rw [e]; rfl))]
      · simp [ha]
theorem pw_evenEnd (l : List Nat) (k : Nat) : evenEnd (pw l k) := by
  intro a r h he
  cases l with
  | nil => simp [pw] at h; exact h.2
  | cons b l =>
    rw [pw_cons] at h
    injection h with h1 h2
    omega
theorem rem_get (ks : List Nat) (m c d : Nat) (hc : c ≠ m) (h : ks[c]? = some d) : (ks.take m ++ ks.drop (m + 1))[if c ≤ m then c else c - 1]? = some d := by
  have hl := (List.getElem?_eq_some_iff.1 h).1
  by_cases hk : c ≤ m
  · rw [if_pos hk, List.getElem?_append_left (by simp; omega), List.getElem?_take, if_pos (by omega)]
    exact h
  · rw [if_neg hk, List.getElem?_append_right (by simp; omega)]
    have e : c - 1 - (ks.take m).length = c - 1 - m := by simp; omega
    rw [e, List.getElem?_drop, show m + 1 + (c - 1 - m) = c by omega]
    exact h
theorem way_of_climb {s : List Nd} (wf : WF s) {t : Nat} : ∀ (m n : Nat), n < s.length → climb s m n = (t : Int) → ∃ l, Way s t n l := by
  intro m
  induction m with
  | zero =>
    intro n hn h
    have : n = t := by simp [climb] at h; omega
    subst this
    exact ⟨[], .top⟩
  | succ m ih =>
    intro n hn h
    have hx := List.getElem?_eq_getElem hn
    rcases wf.par n _ hx with hp | ⟨i, y, hp, hy, hc⟩
    · exfalso
      have h1 : climb s 1 n = -1 := by simp [climb, parOf, hx, hp]
      have h2 := climb_neg (s := s) (j := 1) (n := n) (by rw [h1]; decide) m
      rw [Nat.add_comm] at h2
      omega
    · have h1 : climb s 1 n = (i : Int) := by simp [climb, parOf, hx, hp]
      have h2 := climb_add h1 m
      rw [Nat.add_comm] at h2
      rw [h2] at h
      obtain ⟨l, wl⟩ := ih i (List.getElem?_eq_some_iff.1 hy).1 h
      obtain ⟨k, hk, e⟩ := List.mem_iff_getElem.1 hc
      exact ⟨l ++ [k], .down wl hy (by rw [List.getElem?_eq_getElem hk, e])⟩
section
variable {s : List Nd} {i j m : Nat} {x y : Nd}
theorem moves_remove (wf : WF s) (hx : s[i]? = some x) (hj : x.p = (j : Int)) (hy : s[j]? = some y) (hm : y.ks[m]? = some i) (hij : i ≠ j) (L : List Nat) (hL : ∀ a : Nat, a < s.length → (a ∈ L ↔ ∃ q, climb s q a = (i : Int))) (t : Nat) (ht : ∃ z, s[t]? = some z ∧ z.p = -1) :
    ∃ t' E, Moves s ((s.set j { y with ks := y.ks.take m ++ y.ks.drop (m + 1) }).set i { x with p := -1 }) t t' (gatherF L j m (shiftF j m (-1))) E := by
  have hil := (List.getElem?_eq_some_iff.1 hx).1
  have hjl := (List.getElem?_eq_some_iff.1 hy).1
  have hml := (List.getElem?_eq_some_iff.1 hm).1
  obtain ⟨h, B, u⟩ := wf.up
  obtain ⟨tj, htj⟩ := top_there wf j hjl
  obtain ⟨lj, wj⟩ := way_to wf htj hjl
  obtain ⟨xt, hxt', hpt⟩ := htj.2
  have hyt : y.t = false := by
    cases hyt : y.t with
    | false => rfl
    | true => have := (wf.elem j y hy).1 hyt; rw [this] at hm; cases hm
  have hjL : j ∉ L := fun hmem => by
    obtain ⟨q, hq⟩ := (hL j hjl).1 hmem
    have h1 := (climb_height u q j i hq).1
    have h2 := (wf.kid_lt u hy (List.mem_of_getElem? hm)).2
    omega
  have hpl : ∀ (a b : Int), PlOk s a b → PlOk ((s.set j { y with ks := y.ks.take m ++ y.ks.drop (m + 1) }).set i { x with p := -1 }) (gatherF L j m (shiftF j m (-1)) a b).1 (gatherF L j m (shiftF j m (-1)) a b).2 := fun a b hp => hp.remove hx hy hij hyt hml L hjL
  have gj : ((s.set j { y with ks := y.ks.take m ++ y.ks.drop (m + 1) }).set i { x with p := -1 })[j]? = some { y with ks := y.ks.take m ++ y.ks.drop (m + 1) } := by
    rw [List.getElem?_set_ne hij, List.getElem?_set_self hjl]
  have gi : ((s.set j { y with ks := y.ks.take m ++ y.ks.drop (m + 1) }).set i { x with p := -1 })[i]? = some { x with p := -1 } := by
    rw [List.getElem?_set_self (by simpa using hil)]
  have go : ∀ q, q ≠ j → q ≠ i → ((s.set j { y with ks := y.ks.take m ++ y.ks.drop (m + 1) }).set i { x with p := -1 })[q]? = s[q]? := fun q h1 h2 => by
    rw [List.getElem?_set_ne (fun e => h2 e.symm), List.getElem?_set_ne (fun e => h1 e.symm)]
  have same : ∀ (q : Nat) (z : Nd), q ≠ j → s[q]? = some z → ∃ z', ((s.set j { y with ks := y.ks.take m ++ y.ks.drop (m + 1) }).set i { x with p := -1 })[q]? = some z' ∧ z'.ks = z.ks := fun q z hq hz => by
    by_cases hqi : q = i
    · subst hqi
      rw [hx] at hz
      cases hz
      exact ⟨_, gi, rfl⟩
    · exact ⟨z, by rw [go q hq hqi]; exact hz, rfl⟩
  have hout : ∀ n : Nat, n ∉ L → ∀ b : Nat, gatherF L j m (shiftF j m (-1)) n b = shiftF j m (-1) n b := fun n hn b => by
    unfold gatherF
    rw [if_neg]
    intro hc
    simp at hc
    obtain ⟨c, hc1, hc2⟩ := hc
    obtain rfl : c = n := by omega
    exact hn hc1
  have hin : ∀ n : Nat, n ∈ L → ∀ b : Nat, gatherF L j m (shiftF j m (-1)) n b = ((j : Int), (m : Int)) := fun n hn b => by
    unfold gatherF
    rw [if_pos]
    simp
    exact ⟨n, hn, rfl⟩
  have wi : Way s tj i (lj ++ [m]) := .down wj hy hm
  have topj : ∃ z, ((s.set j { y with ks := y.ks.take m ++ y.ks.drop (m + 1) }).set i { x with p := -1 })[tj]? = some z ∧ z.p = -1 := by
    by_cases e : tj = j
    · subst e
      rw [hy] at hxt'
      cases hxt'
      exact ⟨_, gj, hpt⟩
    · by_cases e2 : tj = i
      · exact ⟨_, by rw [e2]; exact gi, rfl⟩
      · exact ⟨xt, by rw [go tj e e2]; exact hxt', hpt⟩
  have hway : ∀ {n l}, Way s tj n l → ¬ (∃ q, climb s q n = (i : Int)) → ∃ l', Way ((s.set j { y with ks := y.ks.take m ++ y.ks.drop (m + 1) }).set i { x with p := -1 }) tj n l' ∧ enc l' = under (enc lj) (gRem0 m) (enc l) := fun w hn =>
    Way.moved wf ⟨xt, hxt', hpt⟩ wj (fun n => ∃ q, climb s q n = (i : Int)) (fun c => if c ≤ m then c else c - 1) rfl (fun a r e => rfl)
      (fun c d z hz hd hno => by
        rw [hy] at hz
        cases hz
        have hcm : c ≠ m := fun e => by
          subst e
          rw [hm] at hd
          cases hd
          exact hno ⟨0, rfl⟩
        show [if 2 * c + 1 ≤ 2 * m then 2 * c + 1 else 2 * c + 1 - 2] = [2 * (if c ≤ m then c else c - 1) + 1]
        by_cases hc : c ≤ m
        · rw [if_pos (by omega), if_pos hc]
        · rw [if_neg (by omega), if_neg hc]
          exact congrArg (fun a => [a]) (by omega))
      (fun c d z hz hd hno => by
        rw [hy] at hz
        cases hz
        have hcm : c ≠ m := fun e => by
          subst e
          rw [hm] at hd
          cases hd
          exact hno ⟨0, rfl⟩
        exact ⟨_, gj, rem_get y.ks m c d hcm hd⟩)
      (fun q c d z hq hz hd _ => by
        obtain ⟨z', h1, h2⟩ := same q z hq hz
        exact ⟨z', h1, by rw [h2]; exact hd⟩)
      (fun q c d z hz hd hno ⟨r, hr⟩ => by
        obtain ⟨d', hd', hdp⟩ := wf.kid q z hz d (List.mem_of_getElem? hd)
        have h1 : climb s 1 d = (q : Int) := by simp [climb, parOf, hd', hdp]
        exact hno ⟨1 + r, by rw [climb_add h1 r]; exact hr⟩) w hn
  have hnotj : ¬ ∃ q, climb s q j = (i : Int) := fun hq => hjL ((hL j hjl).2 hq)
  by_cases h1 : t = tj
  · subst h1
    refine ⟨t, under (enc lj) (gRem m), ⟨fun P Q hP hQ h => ?_, topj, fun n b l hb w => ?_⟩⟩
    · obtain ⟨n1, k1, l1, _, _, rfl⟩ := hP
      obtain ⟨n2, k2, l2, _, _, rfl⟩ := hQ
      refine under_le2 (ok := evenEnd) (fun R R' h1 h2 h => gRem_mono m R R' h1 h2 h) _ _ _ (fun R e => ?_) (fun R e => ?_) h
      · obtain ⟨l3, _, rfl⟩ := pw_below e; exact pw_evenEnd _ _
      · obtain ⟨l3, _, rfl⟩ := pw_below e; exact pw_evenEnd _ _
    · have hnl : n < s.length := by obtain ⟨n0, k0, e1, e2, h3, _⟩ := hb; omega
      have hp := hpl n b hb
      by_cases hn : n ∈ L
      · obtain ⟨q, hq⟩ := (hL n hnl).1 hn
        obtain ⟨l2, w2⟩ := way_of_climb wf q n hnl hq
        obtain rfl := w.only wf ⟨xt, hxt', hpt⟩ (wi.append w2)
        obtain ⟨l', w', e'⟩ := hway wj hnotj
        have e3 : l' = lj := by
          have h3 := under_at (enc lj) (gRem0 m) []
          rw [List.append_nil] at h3
          rw [h3] at e'
          exact enc_inj (by simpa [gRem0] using e')
        subst e3
        rw [hin n hn b] at hp
        refine ⟨j, m, l', hin n hn b, hp, w', ?_⟩
        have e4 : pw (l' ++ [m] ++ l2) b = enc l' ++ (2 * m + 1) :: pw l2 b := by simp [pw, enc]
        rw [e4, under_at, pw_eq]
        simp [gRem]
      · have hno : ¬ ∃ q, climb s q n = (i : Int) := fun hq => hn ((hL n hnl).2 hq)
        obtain ⟨l', w', e'⟩ := hway w hno
        have hnp : ∀ (b : Nat) (r : List Nat), pw l b ≠ enc lj ++ (2 * m + 1) :: r := fun b r e => by
          obtain ⟨l3, rfl, e3⟩ := pw_below e
          cases l3 with
          | nil => simp [pw] at e3; omega
          | cons c l3 =>
            rw [pw_cons] at e3
            injection e3 with e4 e5
            obtain rfl : c = m := by omega
            obtain ⟨p, q, z, w1, hz, hq, w2⟩ := w.cut lj c l3 rfl
            obtain rfl := w1.node wj
            rw [hy] at hz
            cases hz
            rw [hm] at hq
            cases hq
            exact hno (way_climb wf w2)
        rw [hout n hn b] at hp
        by_cases hnj : n = j
        · subst hnj
          obtain rfl := wj.only wf ⟨xt, hxt', hpt⟩ w
          have e3 : l' = lj := by
            have h3 := under_at (enc lj) (gRem0 m) []
            rw [List.append_nil] at h3
            rw [h3] at e'
            exact enc_inj (by simpa [gRem0] using e')
          subst e3
          by_cases hmb : (m : Int) < (b : Int)
          · have e1 : shiftF n m (-1) n b = ((n : Int), ((b - 1 : Nat) : Int)) := by
              unfold shiftF
              rw [if_pos ⟨rfl, hmb⟩]
              exact congrArg (fun a => ((n : Int), a)) (by omega)
            rw [e1] at hp
            refine ⟨n, b - 1, l', by rw [hout n hn b]; exact e1, hp, w', ?_⟩
            rw [pw_eq, pw_eq, under_at]
            simp only [gRem]
            rw [if_neg (by omega), if_neg (by omega)]
            exact congrArg (fun a => enc l' ++ [a]) (by omega)
          · have e1 : shiftF n m (-1) n b = ((n : Int), (b : Int)) := by
              unfold shiftF
              rw [if_neg (fun h => hmb h.2)]
            rw [e1] at hp
            refine ⟨n, b, l', by rw [hout n hn b]; exact e1, hp, w', ?_⟩
            rw [pw_eq, under_at]
            simp only [gRem]
            rw [if_neg (by omega), if_pos (by omega)]
        · have e1 : shiftF j m (-1) n b = ((n : Int), (b : Int)) := by
            unfold shiftF
            rw [if_neg (fun h => hnj (by omega))]
          rw [e1] at hp
          refine ⟨n, b, l', by rw [hout n hn b]; exact e1, hp, w', ?_⟩
          have hne : enc l ≠ enc lj := fun e => hnj (w.node (by rw [enc_inj e]; exact wj))
          rw [under_rem m _ _ (hnp b), pw_eq, pw_eq, under_snoc0 (fun a r e => rfl) rfl _ _ _ hne, e']
  · obtain ⟨z, hz, hzp⟩ := ht
    have hnj : ∀ (q : Nat) (l : List Nat), Way s t q l → q ≠ j := fun q l w e => by
      subst e
      exact h1 ((way_top wf w hz hzp).one htj)
    have hni : ∀ (q : Nat) (l : List Nat), Way s t q l → q < s.length → q ∉ L := fun q l w hq hmem => by
      obtain ⟨r, hr⟩ := (hL q hq).1 hmem
      obtain ⟨l2, w2⟩ := way_of_climb wf r q hq hr
      exact h1 ((way_top wf w hz hzp).one (way_top wf (wi.append w2) hxt' hpt))
    have hsh : ∀ (n b : Nat) (l : List Nat), n < s.length → Way s t n l → gatherF L j m (shiftF j m (-1)) n b = ((n : Int), (b : Int)) := fun n b l hn w => by
      rw [hout n (hni n l w hn) b]
      unfold shiftF
      rw [if_neg (fun h => hnj n l w (by omega))]
    have htl := (List.getElem?_eq_some_iff.1 hz).1
    have hti : t ≠ i := fun e => by
      subst e
      rw [hx] at hz
      cases hz
      omega
    refine ⟨t, _, Moves.still (fun n b l hb w => ?_) ⟨z, by rw [go t (hnj t [] .top) hti]; exact hz, hzp⟩ (fun q l y w hq => same q y (hnj q l w) hq)⟩
    have hnl : n < s.length := way_lt wf w htl
    refine ⟨hsh n b l hnl w, ?_⟩
    have := hpl n b hb
    rw [hsh n b l hnl w] at this
    exact this
end
end Go.Proofs.YtabogkonklplcaaGreatDoor

namespace Go.Proofs.YtabogkonklplcaaGreatDoor
set_option linter.unusedSimpArgs false
set_option linter.unusedVariables false
theorem under_not {g : List Nat → List Nat} (g0 : g [] = []) : ∀ (P1 P : List Nat), (∀ a r, P ≠ P1 ++ a :: r) → under P1 g P = P := by
  intro P1
  induction P1 with
  | nil =>
    intro P h
    cases P with
    | nil => exact g0
    | cons a r => exact absurd rfl (h a r)
  | cons p P1 ih =>
    intro P h
    cases P with
    | nil => rfl
    | cons a r =>
      simp only [under]
      by_cases ha : a = p
      · subst ha
        rw [if_pos rfl, ih r (fun b r' e => h b r' (by rw [e]; rfl))]
      · rw [if_neg ha]
section
variable {s : List Nd} {n o c gg : Nat} {x : Nd} {cs : List ByteArray}
def phi (o c g b : Nat) : Nat := if b ≤ o then b else if b ≤ o + c then o else b - c + g
def gRep (o c g : Nat) : List Nat → List Nat
  | [] => []
  | a :: r => 2 * phi o c g (a / 2) :: r
theorem resize_phi (n o c g b : Nat) : resizeF n o c g n b = ((n : Int), (phi o c g b : Int)) := by
  unfold resizeF shiftF phi
  by_cases h1 : b ≤ o
  · rw [if_neg (by omega), if_neg (by omega), if_pos h1]
  · by_cases h2 : b ≤ o + c
    · rw [if_pos ⟨rfl, by omega, by omega⟩, if_neg h1, if_pos h2]
    · rw [if_neg (by omega), if_pos ⟨rfl, by omega⟩, if_neg h1, if_neg h2]
      exact congrArg (fun a => ((n : Int), a)) (by omega)
theorem resize_other (n o c g q b : Nat) (h : q ≠ n) : resizeF n o c g q b = ((q : Int), (b : Int)) := by
  unfold resizeF shiftF
  rw [if_neg (by omega), if_neg (by omega)]
theorem phi_mono (o c g a b : Nat) (h : a ≤ b) : phi o c g a ≤ phi o c g b := by
  unfold phi
  split <;> split <;> (try split) <;> (try split) <;> omega
theorem moves_replace (wf : WF s) (hx : s[n]? = some x) (ht : x.t = true) (hc : o + c ≤ x.cs.length) (hcs : cs.length = x.cs.length - c + gg) (t : Nat) (htop : ∃ z, s[t]? = some z ∧ z.p = -1) :
    ∃ t' E, Moves s (s.set n { x with cs := cs }) t t' (resizeF n o c gg) E := by
  have hnl := (List.getElem?_eq_some_iff.1 hx).1
  obtain ⟨tn, htn⟩ := top_there wf n hnl
  obtain ⟨ln, wn⟩ := way_to wf htn hnl
  obtain ⟨xt, hxt', hpt⟩ := htn.2
  have hks : x.ks = [] := (wf.elem n x hx).1 ht
  have hpl : ∀ (a b : Int), PlOk s a b → PlOk (s.set n { x with cs := cs }) (resizeF n o c gg a b).1 (resizeF n o c gg a b).2 := fun a b hp => hp.replace hx ht hc hcs
  have same : ∀ (q : Nat) (z : Nd), s[q]? = some z → ∃ z', (s.set n { x with cs := cs })[q]? = some z' ∧ z'.ks = z.ks ∧ z'.p = z.p := fun q z hz => by
    by_cases hq : q = n
    · subst hq
      rw [hx] at hz
      cases hz
      exact ⟨_, List.getElem?_set_self hnl, rfl, rfl⟩
    · exact ⟨z, by rw [List.getElem?_set_ne (fun e => hq e.symm)]; exact hz, rfl, rfl⟩
  have hway : ∀ {t q l}, Way s t q l → Way (s.set n { x with cs := cs }) t q l := fun w => w.same (fun q l z _ hz => by
    obtain ⟨z', h1, h2, _⟩ := same q z hz
    exact ⟨z', h1, h2⟩)
  have htop' : ∃ z, (s.set n { x with cs := cs })[t]? = some z ∧ z.p = -1 := by
    obtain ⟨z, hz, hzp⟩ := htop
    obtain ⟨z', h1, _, h3⟩ := same t z hz
    exact ⟨z', h1, by rw [h3]; exact hzp⟩
  have nokid : ∀ {q l c l2}, Way s tn q l → l = ln ++ c :: l2 → False := fun w e => by
    obtain ⟨p, q2, z, w1, hz, hq, _⟩ := w.cut ln _ _ e
    obtain rfl := w1.node wn
    rw [hx] at hz
    cases hz
    rw [hks] at hq
    cases hq
  by_cases h1 : t = tn
  · subst h1
    refine ⟨t, under (enc ln) (gRep o c gg), ⟨fun P Q hP hQ h => ?_, htop', fun q b l hb w => ?_⟩⟩
    · obtain ⟨n1, k1, l1, _, w1, rfl⟩ := hP
      obtain ⟨n2, k2, l2, _, w2, rfl⟩ := hQ
      have hok : ∀ {q l k}, Way s t q l → ∀ R, pw l k = enc ln ++ R → ∃ b, R = [2 * b] := fun {q l k} w R e => by
        obtain ⟨l3, e1, e2⟩ := pw_below e
        cases l3 with
        | nil => exact ⟨k, e2⟩
        | cons a l3 => exact (nokid w e1).elim
      refine under_le2 (ok := fun R => ∃ b, R = [2 * b]) (fun R R' h1 h2 h => ?_) _ _ _ (fun R e => hok w1 R e) (fun R e => hok w2 R e) h
      obtain ⟨b, rfl⟩ := h1
      obtain ⟨b', rfl⟩ := h2
      rcases lexN_cons h with hab | ⟨_, h'⟩
      · simp only [gRep]
        have hm := phi_mono o c gg (2 * b / 2) (2 * b' / 2) (by omega)
        rcases Nat.lt_or_eq_of_le hm with h3 | h3
        · exact .inr (.rel (by omega))
        · exact .inl (by rw [h3])
      · exact absurd h' (fun h => lexN_nil h)
    · have hp := hpl q b hb
      by_cases hq : q = n
      · subst hq
        obtain rfl := wn.only wf ⟨xt, hxt', hpt⟩ w
        rw [resize_phi] at hp
        refine ⟨q, phi o c gg b, ln, resize_phi q o c gg b, hp, hway w, ?_⟩
        rw [pw_eq, pw_eq, under_at]
        simp only [gRep]
        rw [show 2 * b / 2 = b by omega]
      · rw [resize_other n o c gg q b hq] at hp
        refine ⟨q, b, l, resize_other n o c gg q b hq, hp, hway w, ?_⟩
        refine (under_not rfl _ _ (fun a r e => ?_)).symm
        obtain ⟨l3, e1, e2⟩ := pw_below e
        cases l3 with
        | nil =>
          rw [List.append_nil] at e1
          subst e1
          exact hq (w.node wn)
        | cons a l3 => exact nokid w e1
  · have hnq : ∀ (q : Nat) (l : List Nat), Way s t q l → q ≠ n := fun q l w e => by
      subst e
      obtain ⟨z, hz, hzp⟩ := htop
      exact h1 ((way_top wf w hz hzp).one htn)
    refine ⟨t, _, Moves.still (fun q b l hb w => ⟨resize_other n o c gg q b (hnq q l w), ?_⟩) htop' (fun q l z w hz => by
      obtain ⟨z', h2, h3, _⟩ := same q z hz
      exact ⟨z', h2, h3⟩)⟩
    have := hpl q b hb
    rw [resize_other n o c gg q b (hnq q l w)] at this
    exact this
end
section
variable {s : List Nd} {n k j m : Nat} {x y : Nd}
def gSpl (m k : Nat) : List Nat → List Nat
  | [] => []
  | a :: r => if a = 2 * m + 1 then (match r with | [e] => if e ≤ 2 * k then a :: [e] else (2 * m + 3) :: [e - 2 * k] | r => a :: r) else (if a ≤ 2 * m then a else a + 2) :: r
def gSpl0 (m : Nat) : List Nat → List Nat
  | [] => []
  | a :: r => (if a ≤ 2 * m + 1 then a else a + 2) :: r
theorem under_spl (m k : Nat) : ∀ (P1 P : List Nat), (∀ r, P ≠ P1 ++ (2 * m + 1) :: r) → under P1 (gSpl m k) P = under P1 (gSpl0 m) P := by
  intro P1
  induction P1 with
  | nil =>
    intro P h
    cases P with
    | nil => rfl
    | cons a r =>
      have ha : ¬ a = 2 * m + 1 := fun e => h r (by rw [e]; rfl)
      simp only [under, gSpl, gSpl0]
      rw [if_neg ha]
      by_cases hb : a ≤ 2 * m
      · rw [if_pos hb, if_pos (by omega)]
      · rw [if_neg hb, if_neg (by omega)]
  | cons p P1 ih =>
    intro P h
    cases P with
    | nil => rfl
    | cons a r =>
      simp only [under]
      by_cases ha : a = p
      · subst ha
        simp only [if_true]
        rw [ih r (fun r' e => h r' (by rw [e]; rfl))]
      · simp [ha]
def okSpl (m : Nat) (R : List Nat) : Prop := ∀ r, R = (2 * m + 1) :: r → ∃ e, r = [e]
theorem gSpl_mono (m k : Nat) (R R' : List Nat) (h1 : okSpl m R) (h2 : okSpl m R') (h : lexN R R') : leP (gSpl m k R) (gSpl m k R') := by
  have head : ∀ (a : Nat) (r : List Nat), okSpl m (a :: r) → ∃ b Y, gSpl m k (a :: r) = b :: Y ∧ (a ≤ 2 * m → b = a) ∧ (a = 2 * m + 1 → b = 2 * m + 1 ∨ b = 2 * m + 3) ∧ (2 * m + 1 < a → b = a + 2) := by
    intro a r hok
    simp only [gSpl]
    by_cases ha : a = 2 * m + 1
    · obtain ⟨e, rfl⟩ := hok r (by rw [ha])
      rw [if_pos ha]
      simp only
      by_cases he : e ≤ 2 * k
      · rw [if_pos he]
        exact ⟨_, _, rfl, fun h => rfl, fun h => .inl ha, fun h => by omega⟩
      · rw [if_neg he]
        exact ⟨_, _, rfl, fun h => by omega, fun h => .inr rfl, fun h => by omega⟩
    · rw [if_neg ha]
      by_cases hb : a ≤ 2 * m
      · rw [if_pos hb]
        exact ⟨_, _, rfl, fun _ => rfl, fun h => by omega, fun h => by omega⟩
      · rw [if_neg hb]
        exact ⟨_, _, rfl, fun h => by omega, fun h => by omega, fun h => rfl⟩
  cases R' with
  | nil => exact absurd h (fun h => lexN_nil h)
  | cons b R' =>
    cases R with
    | nil =>
      obtain ⟨a, Y, e, _⟩ := head b R' h2
      rw [e]
      exact .inr .nil
    | cons a R =>
      rcases lexN_cons h with hab | ⟨rfl, h'⟩
      · obtain ⟨a', X, e1, a1, a2, a3⟩ := head a R h1
        obtain ⟨b', Y, e2, b1, b2, b3⟩ := head b R' h2
        rw [e1, e2]
        refine .inr (.rel ?_)
        rcases Nat.lt_trichotomy a (2 * m + 1) with ha | ha | ha
        · have := a1 (by omega)
          rcases Nat.lt_trichotomy b (2 * m + 1) with hb | hb | hb
          · have := b1 (by omega); omega
          · have := b2 hb; omega
          · have := b3 hb; omega
        · have := a2 ha
          have := b3 (by omega)
          omega
        · have := a3 ha
          have := b3 (by omega)
          omega
      · by_cases ha : a = 2 * m + 1
        · obtain ⟨e, rfl⟩ := h1 R (by rw [ha])
          obtain ⟨e', rfl⟩ := h2 R' (by rw [ha])
          have ee : ∀ e, gSpl m k (a :: [e]) = if e ≤ 2 * k then a :: [e] else (2 * m + 3) :: [e - 2 * k] := fun e => by simp only [gSpl]; rw [if_pos ha]
          rw [ee, ee]
          rcases lexN_cons h' with hee | ⟨_, h3⟩
          · by_cases c1 : e ≤ 2 * k
            · by_cases c2 : e' ≤ 2 * k
              · rw [if_pos c1, if_pos c2]
                exact .inr (.cons (.rel hee))
              · rw [if_pos c1, if_neg c2]
                exact .inr (.rel (by omega))
            · rw [if_neg c1, if_neg (by omega)]
              exact .inr (.cons (.rel (by omega)))
          · exact absurd h3 (fun h => lexN_nil h)
        · simp only [gSpl]
          rw [if_neg ha, if_neg ha]
          exact .inr (.cons h')
theorem moves_splitIn (wf : WF s) (h40 : s.length < 40) (hx : s[n]? = some x) (ht : x.t = true) (hk : k ≤ x.cs.length) (hp : x.p = (j : Int)) (hy : s[j]? = some y) (hm : y.ks[m]? = some n) (hnj : n ≠ j) (t : Nat) (htop : ∃ z, s[t]? = some z ∧ z.p = -1) :
    ∃ t' E, Moves s ((((s ++ [(⟨true, x.cs.drop k, [], -1⟩ : Nd)]).set n { x with cs := x.cs.take k }).set j { y with ks := y.ks.take (m + 1) ++ s.length :: y.ks.drop (m + 1) }).set s.length { (⟨true, x.cs.drop k, [], -1⟩ : Nd) with p := j }) t t' (carryF n k s.length (shiftF j m 1)) E := by
  have hnl := (List.getElem?_eq_some_iff.1 hx).1
  have hjl := (List.getElem?_eq_some_iff.1 hy).1
  have hml := (List.getElem?_eq_some_iff.1 hm).1
  obtain ⟨tj, htj⟩ := top_there wf j hjl
  obtain ⟨lj, wj⟩ := way_to wf htj hjl
  obtain ⟨xt, hxt', hpt⟩ := htj.2
  have hks : x.ks = [] := (wf.elem n x hx).1 ht
  have hyt : y.t = false := by
    cases hyt : y.t with
    | false => rfl
    | true => have := (wf.elem j y hy).1 hyt; rw [this] at hm; cases hm
  have hpl : ∀ (a b : Int), PlOk s a b → PlOk ((((s ++ [(⟨true, x.cs.drop k, [], -1⟩ : Nd)]).set n { x with cs := x.cs.take k }).set j { y with ks := y.ks.take (m + 1) ++ s.length :: y.ks.drop (m + 1) }).set s.length { (⟨true, x.cs.drop k, [], -1⟩ : Nd) with p := j }) (carryF n k s.length (shiftF j m 1) a b).1 (carryF n k s.length (shiftF j m 1) a b).2 := fun a b hb => hb.splitIn hx ht hk hy hyt hml hnj
  obtain ⟨s', hs'⟩ : ∃ s', ((((s ++ [(⟨true, x.cs.drop k, [], -1⟩ : Nd)]).set n { x with cs := x.cs.take k }).set j { y with ks := y.ks.take (m + 1) ++ s.length :: y.ks.drop (m + 1) }).set s.length { (⟨true, x.cs.drop k, [], -1⟩ : Nd) with p := j }) = s' := ⟨_, rfl⟩
  have gj : s'[j]? = some { y with ks := y.ks.take (m + 1) ++ s.length :: y.ks.drop (m + 1) } := by
    rw [← hs', List.getElem?_set_ne (by omega), List.getElem?_set_self (by simp; omega)]
  have gn : s'[n]? = some { x with cs := x.cs.take k } := by
    rw [← hs', List.getElem?_set_ne (by omega), List.getElem?_set_ne (fun e => hnj e.symm), List.getElem?_set_self (by simp; omega)]
  have go : ∀ q, q < s.length → q ≠ j → q ≠ n → s'[q]? = s[q]? := fun q hq h1 h2 => by
    rw [← hs', List.getElem?_set_ne (by omega), List.getElem?_set_ne (fun e => h1 e.symm), List.getElem?_set_ne (fun e => h2 e.symm), List.getElem?_append_left hq]
  rw [hs'] at hpl ⊢
  have same : ∀ (q : Nat) (z : Nd), q ≠ j → s[q]? = some z → ∃ z', s'[q]? = some z' ∧ z'.ks = z.ks ∧ z'.p = z.p := fun q z hq hz => by
    by_cases hqn : q = n
    · subst hqn
      rw [hx] at hz
      cases hz
      exact ⟨_, gn, rfl, rfl⟩
    · exact ⟨z, by rw [go q (List.getElem?_eq_some_iff.1 hz).1 hq hqn]; exact hz, rfl, rfl⟩
  have toph : ∀ (q : Nat), (∃ z, s[q]? = some z ∧ z.p = -1) → ∃ z, s'[q]? = some z ∧ z.p = -1 := fun q ⟨z, hz, hzp⟩ => by
    by_cases hq : q = j
    · subst hq
      rw [hy] at hz
      cases hz
      exact ⟨_, gj, hzp⟩
    · obtain ⟨z', h1, _, h3⟩ := same q z hq hz
      exact ⟨z', h1, by rw [h3]; exact hzp⟩
  have wn : Way s tj n (lj ++ [m]) := .down wj hy hm
  have hway : ∀ {q l}, Way s tj q l → ∃ l', Way s' tj q l' ∧ enc l' = under (enc lj) (gSpl0 m) (enc l) := fun w =>
    Way.moved wf ⟨xt, hxt', hpt⟩ wj (fun _ => False) (fun c => if m + 1 ≤ c then c + 1 else c) rfl (fun a r e => rfl)
      (fun c d z _ _ _ => by
        show [if 2 * c + 1 ≤ 2 * m + 1 then 2 * c + 1 else 2 * c + 1 + 2] = [2 * (if m + 1 ≤ c then c + 1 else c) + 1]
        by_cases hc : m + 1 ≤ c
        · rw [if_neg (by omega), if_pos hc]
          exact congrArg (fun a => [a]) (by omega)
        · rw [if_pos (by omega), if_neg hc])
      (fun c d z hz hd _ => by
        rw [hy] at hz
        cases hz
        exact ⟨_, gj, ins_get y.ks (m + 1) c d s.length hd⟩)
      (fun q c d z hq hz hd _ => by
        obtain ⟨z', h1, h2, _⟩ := same q z hq hz
        exact ⟨z', h1, by rw [h2]; exact hd⟩)
      (fun _ _ _ _ _ _ h => h) w (fun h => h)
  have hlj : ∀ {l'}, enc l' = under (enc lj) (gSpl0 m) (enc lj) → l' = lj := fun e => by
    have h3 := under_at (enc lj) (gSpl0 m) []
    rw [List.append_nil] at h3
    rw [h3] at e
    exact enc_inj (by simpa [gSpl0] using e)
  have thru : ∀ {q l r b}, Way s tj q l → pw l b = enc lj ++ (2 * m + 1) :: r → q = n ∧ r = [2 * b] := fun {q l r b} w e => by
    obtain ⟨l3, e1, e2⟩ := pw_below e
    cases l3 with
    | nil => simp [pw] at e2; omega
    | cons c l3 =>
      rw [pw_cons] at e2
      injection e2 with e4 e5
      obtain rfl : m = c := by omega
      obtain ⟨p, q2, z, w1, hz, hq, w2⟩ := w.cut lj m l3 e1
      obtain rfl := w1.node wj
      rw [hy] at hz
      cases hz
      rw [hm] at hq
      cases hq
      cases l3 with
      | nil =>
        subst e1
        exact ⟨w.node wn, e5⟩
      | cons d l3 =>
        exfalso
        obtain ⟨p2, q3, z2, w3, hz2, hq3, _⟩ := w2.cut [] d l3 rfl
        have : p2 = n := w3.node .top
        subst this
        rw [hx] at hz2
        cases hz2
        rw [hks] at hq3
        cases hq3
  by_cases h1 : t = tj
  · subst h1
    refine ⟨t, under (enc lj) (gSpl m k), ⟨fun P Q hP hQ h => ?_, toph t ⟨xt, hxt', hpt⟩, fun q b l hb w => ?_⟩⟩
    · obtain ⟨n1, k1, l1, _, w1, rfl⟩ := hP
      obtain ⟨n2, k2, l2, _, w2, rfl⟩ := hQ
      refine under_le2 (ok := okSpl m) (fun R R' h1 h2 h => gSpl_mono m k R R' h1 h2 h) _ _ _ (fun R e r er => ?_) (fun R e r er => ?_) h
      · subst er; exact ⟨_, (thru w1 e).2⟩
      · subst er; exact ⟨_, (thru w2 e).2⟩
    · have hpq := hpl q b hb
      obtain ⟨l', w', e'⟩ := hway w
      by_cases hqn : q = n
      · subst hqn
        obtain rfl := wn.only wf ⟨xt, hxt', hpt⟩ w
        have ew : enc l' = enc (lj ++ [m]) := by
          rw [e', show enc (lj ++ [m]) = enc lj ++ [2 * m + 1] by simp [enc], under_at]
          simp [gSpl0, enc]
        obtain rfl := enc_inj ew
        have epw : pw (lj ++ [m]) b = enc lj ++ (2 * m + 1) :: [2 * b] := by simp [pw, enc]
        by_cases hkb : (k : Int) < (b : Int)
        · have e1 : carryF q k s.length (shiftF j m 1) q b = ((s.length : Int), ((b - k : Nat) : Int)) := by
            unfold carryF
            rw [if_pos ⟨rfl, hkb⟩]
            exact congrArg (fun a => ((s.length : Int), a)) (by omega)
          rw [e1] at hpq
          obtain ⟨lj', wj', ej⟩ := hway wj
          obtain rfl := hlj ej
          refine ⟨s.length, b - k, lj' ++ [m + 1], e1, hpq, .down wj' gj ?_, ?_⟩
          · show (y.ks.take (m + 1) ++ s.length :: y.ks.drop (m + 1))[m + 1]? = some s.length
            rw [List.getElem?_append_right (by simp; omega)]
            have : m + 1 - (y.ks.take (m + 1)).length = 0 := by simp; omega
            rw [this]; rfl
          · rw [epw, under_at]
            simp only [gSpl]
            rw [if_pos trivial, if_neg (by omega)]
            have : pw (lj' ++ [m + 1]) (b - k) = enc lj' ++ [2 * (m + 1) + 1, 2 * (b - k)] := by simp [pw, enc]
            rw [this]
            rw [show 2 * (m + 1) + 1 = 2 * m + 3 by omega, show 2 * (b - k) = 2 * b - 2 * k by omega]
        · have e1 : carryF q k s.length (shiftF j m 1) q b = ((q : Int), (b : Int)) := by
            unfold carryF shiftF
            rw [if_neg (fun h => hkb h.2), if_neg (fun h => hnj (by omega))]
          rw [e1] at hpq
          refine ⟨q, b, lj ++ [m], e1, hpq, w', ?_⟩
          rw [epw, under_at]
          simp only [gSpl]
          rw [if_pos trivial, if_pos (by omega)]
      · have e0 : carryF n k s.length (shiftF j m 1) q b = shiftF j m 1 q b := by
          unfold carryF
          rw [if_neg (fun h => hqn (by omega))]
        have hnt : ∀ r, pw l b ≠ enc lj ++ (2 * m + 1) :: r := fun r e => hqn (thru w e).1
        by_cases hqj : q = j
        · subst hqj
          obtain rfl := wj.only wf ⟨xt, hxt', hpt⟩ w
          obtain rfl := hlj e'
          by_cases hmb : (m : Int) < (b : Int)
          · have e1 : shiftF q m 1 q b = ((q : Int), ((b + 1 : Nat) : Int)) := by simp [shiftF, hmb]
            rw [e0, e1] at hpq
            refine ⟨q, b + 1, l', by rw [e0]; exact e1, hpq, w', ?_⟩
            rw [pw_eq, pw_eq, under_at]
            simp only [gSpl]
            rw [if_neg (by omega), if_neg (by omega)]
            exact congrArg (fun a => enc l' ++ [a]) (by omega)
          · have e1 : shiftF q m 1 q b = ((q : Int), (b : Int)) := by simp [shiftF, hmb]
            rw [e0, e1] at hpq
            refine ⟨q, b, l', by rw [e0]; exact e1, hpq, w', ?_⟩
            rw [pw_eq, under_at]
            simp only [gSpl]
            rw [if_neg (by omega), if_pos (by omega)]
        · have e1 : shiftF j m 1 q b = ((q : Int), (b : Int)) := by
            unfold shiftF
            rw [if_neg (fun h => hqj (by omega))]
          rw [e0, e1] at hpq
          refine ⟨q, b, l', by rw [e0]; exact e1, hpq, w', ?_⟩
          have hne : enc l ≠ enc lj := fun e => hqj (w.node (by rw [enc_inj e]; exact wj))
          rw [under_spl m k _ _ hnt, pw_eq, pw_eq, under_snoc0 (fun a r e => rfl) rfl _ _ _ hne, e']
  · obtain ⟨z, hz, hzp⟩ := htop
    have hnjq : ∀ (q : Nat) (l : List Nat), Way s t q l → q ≠ j := fun q l w e => by
      subst e
      exact h1 ((way_top wf w hz hzp).one htj)
    have hnnq : ∀ (q : Nat) (l : List Nat), Way s t q l → q ≠ n := fun q l w e => by
      subst e
      exact h1 ((way_top wf w hz hzp).one (way_top wf wn hxt' hpt))
    have hsh : ∀ (q b : Nat) (l : List Nat), Way s t q l → carryF n k s.length (shiftF j m 1) q b = ((q : Int), (b : Int)) := fun q b l w => by
      unfold carryF shiftF
      rw [if_neg (fun h => hnnq q l w (by omega)), if_neg (fun h => hnjq q l w (by omega))]
    refine ⟨t, _, Moves.still (fun q b l hb w => ⟨hsh q b l w, ?_⟩) (toph t ⟨z, hz, hzp⟩) (fun q l y w hq => by
      obtain ⟨z', h2, h3, _⟩ := same q y (hnjq q l w) hq
      exact ⟨z', h2, h3⟩)⟩
    have := hpl q b hb
    rw [hsh q b l w] at this
    exact this
end
end Go.Proofs.YtabogkonklplcaaGreatDoor

namespace Go.Proofs.YtabogkonklplcaaGreatDoor
set_option linter.unusedSimpArgs false
set_option linter.unusedVariables false
theorem spIs_one {s : List Nd} (wf : WF s) {a b : Int} (h : PlOk s a b) : SpIs s ⟨a, b, a, b⟩ := by
  obtain ⟨n, k, rfl, rfl, hn, hk⟩ := h
  obtain ⟨t, ht⟩ := top_there wf n hn
  obtain ⟨l, w⟩ := way_to wf ht hn
  exact ⟨n, k, n, k, t, l, l, rfl, ⟨n, k, rfl, rfl, hn, hk⟩, ⟨n, k, rfl, rfl, hn, hk⟩, ht, w, w, .inl rfl⟩
theorem spIs_replace {s : List Nd} {n o c : Nat} {x : Nd} {lf : List ByteArray} {z : Sp} (wf : WF s) (hx : s[n]? = some x) (ht : x.t = true) (hc : o + c ≤ x.cs.length) (wf' : WF (s.set n { x with cs := x.cs.take o ++ lf ++ x.cs.drop (o + c) })) (h : SpIs s z) : SpIs (s.set n { x with cs := x.cs.take o ++ lf ++ x.cs.drop (o + c) }) (mvSp (resizeF n o c lf.length) z) :=
  h.mv wf' (fun t htop => moves_replace wf hx ht hc (by simp; omega) t htop)
theorem spIs_lives : Lives SpIs where
  place := fun h => h.ok
  fresh := fun wf => spIs_one wf ⟨0, 0, rfl, rfl, wf.pos, Nat.zero_le _⟩
  push := fun nd wf _ _ h => spIs_push nd wf h
  insert := fun wf hI hw hk hij h => h.mv (wf_insert wf hI hw hk).2 (fun t ht => moves_insert wf hI hw hk hij t ht)
  remove := fun l wf hx hj hy hm hno hij hl h => h.mv (wf_remove wf hx hj hy hm).2 (fun t ht => moves_remove wf hx hj hy hm hij l hl t ht)
  replace := fun wf hx ht hc wf' h => spIs_replace wf hx ht hc wf' h
  splitTop := by
    intro s n k x z wf hx ht hk hp h40 h
    have hn := (List.getElem?_eq_some_iff.1 hx).1
    have hch := wf.chars n x hx
    have w1 := wf_push wf h40 ⟨true, x.cs.drop k, [], -1⟩ rfl rfl (fun h => by cases h) ⟨by simp; omega, fun c hc => hch.2 c (List.mem_of_mem_drop hc)⟩
    have hx1 : (s ++ [(⟨true, x.cs.drop k, [], -1⟩ : Nd)])[n]? = some x := by rw [List.getElem?_append_left hn]; exact hx
    have e : x.cs.take k ++ [] ++ x.cs.drop (k + (x.cs.length - k)) = x.cs.take k := by rw [List.drop_of_length_le (by omega)]; simp
    have w2 : WF ((s ++ [(⟨true, x.cs.drop k, [], -1⟩ : Nd)]).set n { x with cs := x.cs.take k ++ [] ++ x.cs.drop (k + (x.cs.length - k)) }) := by
      rw [e]
      exact wf_chars w1 hx1 ht ⟨by simp; omega, fun c hc => hch.2 c (List.mem_of_mem_take hc)⟩
    have := spIs_replace w1 hx1 ht (by omega) w2 (spIs_push _ wf h)
    rw [e] at this
    exact this
  splitIn := fun wf hx ht hk hp hy hm hno hnj h40 wf' h => h.mv wf' (fun t htop => moves_splitIn wf h40 hx ht hk hp hy hm hnj t htop)
  one := fun wf h => spIs_one wf h
  two := fun wf h1 h2 ht w1 w2 hc => ⟨_, _, _, _, _, _, _, rfl, h1, h2, ht, w1, w2, leP_of_lexC hc⟩
end Go.Proofs.YtabogkonklplcaaGreatDoor
