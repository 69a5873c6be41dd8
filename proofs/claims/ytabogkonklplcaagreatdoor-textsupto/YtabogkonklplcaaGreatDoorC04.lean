import Derived.Test.YtabogkonklplcaaGreatDoorC03
import Derived.Test.YtabogkonklplcaaGreatDoorRows
import Derived.WalkKit
import Derived.WalkSpells
import Derived.WalkLawsBesides
import Derived.Handy
import Derived.Deep.QuietTactic
import Derived.BigQuiet
import Derived.Laws.AppendOwnNone

/- Plain mathematics of the trees: what is true from some count on (Lim), going up by parents (withinF), the heights (Up). Nothing of the dump. -/
namespace Go.Proofs.YtabogkonklplcaaGreatDoor
set_option linter.unusedSimpArgs false
set_option linter.unusedVariables false

/-- From some count on, f is b. -/
def Lim {α : Type} (f : Nat → α) (b : α) : Prop := ∃ K, ∀ k, K ≤ k → f k = b
theorem Lim.unique {α : Type} {f : Nat → α} {a b : α} (h : Lim f a) (g : Lim f b) : a = b := by
  obtain ⟨K, h⟩ := h
  obtain ⟨L, g⟩ := g
  rw [← h (max K L) (Nat.le_max_left _ _), g (max K L) (Nat.le_max_right _ _)]
theorem Lim.succ {α : Type} {f : Nat → α} {b : α} (h : Lim (fun k => f (k + 1)) b) : Lim f b := by
  obtain ⟨K, h⟩ := h
  exact ⟨K + 1, fun k hk => by obtain ⟨j, rfl⟩ : ∃ j, k = j + 1 := ⟨k - 1, by omega⟩; exact h j (by omega)⟩

def parOf (s : List Nd) (i : Nat) : Int := match s[i]? with | some x => x.p | none => -1

/-- 'within', going up at most so many times. -/
def withinF (s : List Nd) : Nat → Int → Int → Bool
  | 0, _, _ => false
  | k + 1, n, o => if n < 0 then false else if n = o then true else withinF s k (parOf s n.toNat) o

/-- Heights: whoever has a parent stands below it, and none stands above B. -/
structure Up (s : List Nd) (h : Nat → Nat) (B : Nat) : Prop where
  le : ∀ i, h i ≤ B
  par : ∀ (i : Nat) (x : Nd), s[i]? = some x → 0 ≤ x.p → x.p < (s.length : Int) ∧ h i < h x.p.toNat

def upMeas (h : Nat → Nat) (B : Nat) (n : Int) : Nat := if 0 ≤ n then B + 1 - h n.toNat else 0

theorem upMeas_lt {s : List Nd} {h : Nat → Nat} {B : Nat} (u : Up s h B) {i : Nat} {x : Nd} (hx : s[i]? = some x) : upMeas h B x.p < upMeas h B (i : Int) := by
  unfold upMeas
  have h1 := u.le i
  rw [if_pos (Int.natCast_nonneg i)]
  have e : ((i : Int)).toNat = i := by simp
  rw [e]
  by_cases hp : 0 ≤ x.p
  · rw [if_pos hp]
    have := (u.par i x hx hp).2
    have h2 := u.le x.p.toNat
    omega
  · rw [if_neg hp]; omega

theorem within_end (s : List Nd) (n o : Int) (hn : n < 0) : Lim (fun k => withinF s k n o) false :=
  Lim.succ ⟨0, fun k _ => by simp [withinF, hn]⟩
theorem within_hit (s : List Nd) (n : Int) (hn : 0 ≤ n) : Lim (fun k => withinF s k n n) true :=
  Lim.succ ⟨0, fun k _ => by simp [withinF]; omega⟩
theorem within_up (s : List Nd) (i : Nat) (x : Nd) (o : Int) (hx : s[i]? = some x) (ho : ¬ (i : Int) = o) {b : Bool} (h : Lim (fun k => withinF s k x.p o) b) : Lim (fun k => withinF s k (i : Int) o) b := by
  refine Lim.succ ?_
  obtain ⟨K, h⟩ := h
  refine ⟨K, fun k hk => ?_⟩
  have e : parOf s ((i : Int)).toNat = x.p := by simp [parOf, hx]
  have hi : ¬ (i : Int) < 0 := by omega
  simp only [withinF, hi, ho, if_false, e]
  exact h k hk

end Go.Proofs.YtabogkonklplcaaGreatDoor

/- The document's own answer (package marginref), function by function: 'is', 'no', 'fine', 'size', 'within', 'top', 'index'. -/
namespace Go.Proofs.YtabogkonklplcaaGreatDoor
open Go.RowKit
set_option linter.unusedSimpArgs false
set_option linter.unusedVariables false

theorem ret_bool {a b : Bool} (h : a = b) : Ending.returned (.bool a) = .returned (.bool b) := by rw [h]
theorem ret_int {k : IntKind} {a b : Int} (h : a = b) : Ending.returned (.int k a) = .returned (.int k b) := by rw [h]

/-- The call returned a bool of which P holds. -/
def IsB (e : Ending) (P : Bool → Prop) : Prop := ∃ b, e = .returned (.bool b) ∧ P b
/-- The call returned an int of which P holds. -/
def IsI (e : Ending) (P : Int → Prop) : Prop := ∃ b, e = .returned (.int .i64 b) ∧ P b
/-- Nothing but draws. -/
def Drawn (w w' : World) : Prop := ∃ n, w' = w.drewN n

/-- A row of ints, as the walk meets it: nil, or a block. -/
theorem row_cases {w : World} {e : TypeId} {z : Nat} {v : Value} {n : Nat} {xs : List Value} (h : w.ownsRow 0 e z v n xs) : (v = .slice none 0 0 ∧ n = 0) ∨ ∃ g cap, v = .slice (some ⟨g, 0, none⟩) n cap := by
  rcases h.2 with h | ⟨g, cap, cur, hv, _⟩
  · exact .inl h
  · exact .inr ⟨g, cap, hv⟩

section
variable {w : World} {F : Nat → Prop} {bd bn cap : Nat} {rn : List RN} {rv : Value} {s : List Nd} {rs : List Sp}

set_option maxHeartbeats 400000 in
theorem is_any (hD : RDocAt w F bd bn cap rn rv s rs) (k : Int) :
    Calls Tryz.prog 47 #[.pointer (some ⟨bd, 0, none⟩), .int .i64 k] w fun e w' => e = .returned (.bool (decide (0 ≤ k ∧ k < s.length))) ∧ w' = w := by
  have h0 := hD.nodesCell
  clear hD
  by_cases hk : 0 ≤ k
  · go_enter Tryz.func47, Tryz.ntmps47
    go_wp2
    go_ret
    exact ⟨by simp [hk], rfl⟩
  · have hd : decide (0 ≤ k) = false := by simpa using hk
    go_enter Tryz.func47, Tryz.ntmps47
    go_wp2
    go_ret
    exact ⟨by simp [hk], rfl⟩

set_option maxHeartbeats 400000 in
theorem no_any (k y : Int) (w : World) :
    Calls Tryz.prog 48 #[.int .i64 k, .int .i64 y] w fun e w' => e = .returned (.agg #[.int .i64 k, .int .i64 y]) ∧ w' = w.alloc (.cells #[.int .i64 k, .int .i64 y] 32) := by
  go_enter Tryz.func48, Tryz.ntmps48
  go_wp2
  go_returns
  exact ⟨rfl, rfl⟩

set_option maxHeartbeats 400000 in
theorem within_any (hD : RDocAt w F bd bn cap rn rv s rs) {ht : Nat → Nat} {B : Nat} (hU : Up s ht B) (k o : Int) (hk : k < s.length) :
    Calls Tryz.prog 116 #[.pointer (some ⟨bd, 0, none⟩), .int .i64 k, .int .i64 o] w fun e w' => w' = w ∧ IsB e fun b => Lim (fun c => withinF s c k o) b := by
  have h0 := hD.nodesCell
  go_enter Tryz.func116, Tryz.ntmps116
  go_wp2
  go_loop [1] (fun t => ∃ m : Int, m < s.length ∧ t = .int .i64 m ∧ ∀ b, Lim (fun c => withinF s c m o) b → Lim (fun c => withinF s c k o) b) (fun t => upMeas ht B (intOf t))
  case atStart => exact ⟨k, hk, rfl, fun _ h => h⟩
  case round =>
    obtain ⟨m, hm, rfl, hl⟩ := hrel
    by_cases h1 : 0 ≤ m
    · obtain ⟨i, rfl⟩ := Int.eq_ofNat_of_zero_le h1
      have hi : i < s.length := by omega
      by_cases h2 : (i : Int) = o
      · subst h2
        clear hD
        go_wp2
        go_ret
        exact ⟨rfl, _, rfl, hl _ (within_hit s _ h1)⟩
      · have hx : s[i]? = some s[i] := List.getElem?_eq_getElem hi
        obtain ⟨r, hr, ho, -, -, -, hp⟩ := hD.look hx
        have HX : Hid (s[i]? = some s[i]) := hx
        generalize s[i] = x at *
        clear hD hx ho hr
        go_wp2
        refine ⟨⟨x.p, ?_, rfl, fun b hb => hl b (within_up s i x o HX.out h2 hb)⟩, by simpa [intOf] using upMeas_lt hU HX.out⟩
        by_cases hp0 : 0 ≤ x.p
        · exact (hU.par i x HX.out hp0).1
        · omega
    · clear hD
      go_wp2
      go_ret
      exact ⟨rfl, _, rfl, hl _ (within_end s m o (by omega))⟩

set_option maxHeartbeats 400000 in
/-- 'index': where a node stands among its parent's children, or -1. -/
theorem index_any (hD : RDocAt w F bd bn cap rn rv s rs) (i j : Nat) (x y : Nd) (hx : s[i]? = some x) (hj : x.p = j) (hy : s[j]? = some y) (hbig : y.ks.length < lots) :
    Calls Tryz.prog 121 #[.pointer (some ⟨bd, 0, none⟩), .int .i64 i] w fun e w' => Drawn w w' ∧ IsI e fun q =>
      ((∃ m : Nat, q = m ∧ y.ks[m]? = some i ∧ i ∉ y.ks.take m) ∨ (q = -1 ∧ i ∉ y.ks)) := by
  unfold lots at hbig
  have h0 := hD.nodesCell
  obtain ⟨r, hr, ho, -, -, -, hp⟩ := hD.look hx
  obtain ⟨r', hr', ho', -, -, hk, -⟩ := hD.look hy
  rw [hj] at hp
  have hi : i < s.length := (List.getElem?_eq_some_iff.1 hx).1
  have hj' : j < s.length := (List.getElem?_eq_some_iff.1 hy).1
  have hrow := ho'.kids
  rcases row_cases hrow with ⟨hv, hn⟩ | ⟨g, c, hv⟩
  · rw [hv] at hk
    have hz : y.ks = [] := List.length_eq_zero_iff.1 hn
    clear hD ho ho' hrow hr hr' hx hy hj
    go_enter Tryz.func121, Tryz.ntmps121
    go_wp2
    go_quiet (fail)
    go_wp2
    go_rounds 1
    go_ret
    exact ⟨⟨_, rfl⟩, _, rfl, .inr ⟨rfl, by simp [hz]⟩⟩
  · rw [hv] at hk
    have hcell : Hid (∀ (m : Nat) (u : Nat), y.ks[m]? = some u → w.cell? ⟨g, m, none⟩ = some (.int .i64 (u : Int))) := by
      intro m u hm
      rw [hv] at hrow
      rw [hrow.cellAt m (by have := (List.getElem?_eq_some_iff.1 hm).1; omega)]
      simp [intsV, hm]
    clear hD ho ho' hrow hr hr' hx hy hj
    go_enter Tryz.func121, Tryz.ntmps121
    go_wp2
    go_quiet (fail)
    go_wp2
    go_loop [6] (fun t => ∃ k : Nat, k ≤ y.ks.length ∧ t = .int .i64 k ∧ i ∉ y.ks.take k) (fun t => y.ks.length - (intOf t).toNat)
    case atStart => exact ⟨0, Nat.zero_le _, rfl, by simp⟩
    case round =>
      obtain ⟨k, hkl, rfl, hno⟩ := hrel
      have HN : Hid (i ∉ y.ks.take k) := hno
      clear hno
      by_cases hlt : k < y.ks.length
      · obtain ⟨u, hu⟩ : ∃ u, y.ks[k]? = some u := ⟨_, List.getElem?_eq_getElem hlt⟩
        have hc := hcell.out k u hu
        have HU : Hid (y.ks[k]? = some u) := hu
        clear hu
        by_cases hui : u = i
        · subst hui
          go_wp2
          go_ret
          exact ⟨⟨_, rfl⟩, _, rfl, .inl ⟨k, rfl, HU.out, HN.out⟩⟩
        · have hne : ((u : Int) == (i : Int)) = false := by simp; omega
          go_wp2
          go_round
          case rel => exact ⟨k + 1, by omega, by go_num, by rw [List.take_add_one, HU.out]; simp; exact ⟨HN.out, fun e => hui e.symm⟩⟩
          case measure => simp [intOf]; omega
      · go_wp2
        go_ret
        exact ⟨⟨_, rfl⟩, _, rfl, .inr ⟨rfl, by have := HN.out; rwa [List.take_of_length_le (by omega)] at this⟩⟩
end

end Go.Proofs.YtabogkonklplcaaGreatDoor

/- marginref's lists: 'with', 'without', 'grown'. -/
namespace Go.Proofs.YtabogkonklplcaaGreatDoor
open Go.RowKit
set_option linter.unusedSimpArgs false
set_option linter.unusedVariables false

theorem Tryz.info3 : (Tryz.prog.info? 3).map (fun i => (i.zero, i.size, i.bytes)) = some (some (.int .i64 0), 1, 8) := by kernel_rfl

theorem row_cap {w : World} {e : TypeId} {z : Nat} {g c : Nat} {n : Nat} {xs : List Value} (h : w.ownsRow 0 e z (.slice (some ⟨g, 0, none⟩) n c) n xs) : n ≤ c := by
  rcases h.2 with ⟨h, _⟩ | ⟨g', cap, cur, hv, _, _, hc, _⟩
  · cases h
  · cases hv; exact hc
theorem addr_add (g o j : Nat) : (⟨g, o, none⟩ : Addr).add j = ⟨g, o + j, none⟩ := by unfold Addr.add; split <;> simp_all

theorem intsV_one (l : List Nat) : ∀ u ∈ intsV l, u.oneCell' = true := by
  intro u hu
  simp [intsV] at hu
  obtain ⟨k, _, rfl⟩ := hu
  rfl
theorem intsV_take (l : List Nat) (k : Nat) : intsV (l.take k) = (intsV l).take k := by simp [intsV]
theorem intsV_drop (l : List Nat) (k : Nat) : intsV (l.drop k) = (intsV l).drop k := by simp [intsV]
theorem intsV_append (l m : List Nat) : intsV (l ++ m) = intsV l ++ intsV m := by simp [intsV]

/-- The cells of a part of a row, where they lie. -/
theorem part_cells {w : World} {e : TypeId} {g c n : Nat} {xs : List Value} (h : w.ownsRow 0 e 1 (.slice (some ⟨g, 0, none⟩) n c) n xs) (o : Nat) {ys : List Value} (hy : ∀ (j : Nat) (u : Value), ys[j]? = some u → xs[o + j]? = some u) :
    ∀ (j : Nat) (u : Value), ys[j]? = some u → w.cell? ((⟨g, o, none⟩ : Addr).add j) = some u := by
  intro j u hu
  have hx := hy j u hu
  have hl := (List.getElem?_eq_some_iff.1 hx).1
  have := h.1
  rw [addr_add, h.cellAt (o + j) (by omega), hx]

set_option maxRecDepth 20000 in
/-- 'l[k:]' of a row of one-cell elements: where it lies, the cells that it has. -/
theorem slice_from {w0 : World} {t e : TypeId} {g c n : Nat} {xs : List Value} (ht : Tryz.prog.underlying t = some (.slice e)) (he : Tryz.prog.elem t = e) (hs : ∀ w, (sizeOf e).run Tryz.prog w = .ok 1 w) (hr : w0.ownsRow 0 e 1 (.slice (some ⟨g, 0, none⟩) n c) n xs) (k : Nat) (hk : k ≤ n) :
    ∃ ad : Addr, (∀ w, (Instr.slice t (.slice (some ⟨g, 0, none⟩) n c) (some (.int .i64 (k : Int))) none none).run Tryz.prog w = .ok (.slice (some ad) (n - k) (c - k)) w) ∧
      ∀ w : World, w.ownsRow 0 e 1 (.slice (some ⟨g, 0, none⟩) n c) n xs → ∀ (j : Nat) (u : Value), (xs.drop k)[j]? = some u → w.cell? (ad.add j) = some u := by
  have hc := row_cap hr
  have hl := hr.1
  refine ⟨if c = k then ⟨g, 0, none⟩ else ⟨g, k, none⟩, fun w => ?_, fun w h j u hu => ?_⟩
  · rw [run_slice_l w t _ _ _ (by rw [he]; exact ht) .i64 (k : Int) (by omega) (by omega), he, hs]
    simp only [Result.andThen, sliced, Int.toNat_natCast, Nat.mul_one]
    by_cases hck : c = k
    · rw [if_pos hck, if_pos hck]
    · rw [if_neg hck, if_neg hck, Option.map_some, addr_add, Nat.zero_add]
  · rw [List.getElem?_drop] at hu
    have hj := (List.getElem?_eq_some_iff.1 hu).1
    rw [if_neg (by omega), addr_add, h.cellAt (k + j) (by omega), hu]

theorem Tryz.elem24 : Tryz.prog.elem 24 = 3 := by kernel_rfl
theorem Tryz.sizeOf3 (w : World) : (sizeOf 3).run Tryz.prog w = .ok 1 w := by kernel_rfl

set_option maxRecDepth 20000 in
set_option maxHeartbeats 400000 in
theorem with_any (l : List Nat) (v : Value) (k : Nat) (n : Nat) (w : World) (hr : w.ownsRow 0 3 1 v l.length (intsV l)) (hk : k ≤ l.length) (hbig : l.length < lots) :
    Calls Tryz.prog 117 #[v, .int .i64 k, .int .i64 n] w fun e w' => ∃ v', e = .returned v' ∧ w'.ownsRow w.heap.size 3 1 v' (l.length + 1) (intsV (l.take k ++ n :: l.drop k)) ∧ Below w.heap.size w w' := by
  obtain ⟨i0, hi, hz0, hz1, hz2⟩ := info_parts Tryz.info3
  rcases row_cases hr with ⟨hv, hn⟩ | ⟨g, c, hv⟩
  · subst hv
    obtain rfl : l = [] := List.length_eq_zero_iff.1 hn
    obtain rfl : k = 0 := by simpa using hk
    clear hr hk hn hbig
    go_enter Tryz.func117, Tryz.ntmps117
    go_wp2_with (first
      | (at_builtin; refine wpList_append_own_none rfl (.tmp 8) (.tmp 11) 24 rfl w.heap.size 3 i0 1 Tryz.underlying24 hi (.slice none 0 0) 0 [] rfl (World.ownsRow_nil _ _ _ _) rfl ?_)
      | (at_builtin; refine wpList_append_own _ rfl (.tmp 13) (.tmp 15) 24 rfl w.heap.size 3 i0 (.int .i64 0) 1 8 Tryz.underlying24 hi hz0 hz1 hz2 rfl (by decide) (.slice none 0 0) 0 [] rfl (World.ownsRow_nil _ _ _ _) ⟨w.heap.size, 0, none⟩ 1 1 [.int .i64 n] rfl rfl (cell_one_new _ _ _) (by simp [Value.oneCell']) (by unfold maxLen; omega) (by omega) (by simp) ?_; intro v2 w2 ho2 hg2 _
         have hb2 : Below w.heap.size w w2 := ((Below.refl _ w).alloc (Nat.le_refl _) _).grown hg2 (by simp) (fun k e => by cases e)
         clear hg2)
      | (at_builtin; refine wpList_append_own_none rfl (.tmp 17) (.tmp 20) 24 rfl w.heap.size 3 i0 1 Tryz.underlying24 hi v2 1 _ rfl (by simpa using ho2) rfl ?_))
    go_ret
    exact ⟨v2, rfl, by simpa [intsV] using ho2, hb2⟩
  · subst hv
    have hkc : k ≤ c := Nat.le_trans hk (row_cap hr)
    have HB : Hid (l.length < lots) := hbig
    clear hbig
    have src1 := part_cells hr 0 (ys := intsV (l.take k)) (by intro j u hu; rw [intsV_take] at hu; rw [List.getElem?_take] at hu; split at hu <;> simp_all)
    obtain ⟨ad, hsl, hsrc⟩ := slice_from Tryz.underlying24 Tryz.elem24 Tryz.sizeOf3 hr k hk
    have SRC : Hid (∀ w : World, w.ownsRow 0 3 1 (.slice (some ⟨g, 0, none⟩) l.length c) l.length (intsV l) → ∀ (j : Nat) (u : Value), ((intsV l).drop k)[j]? = some u → w.cell? (ad.add j) = some u) := hsrc
    clear hsrc
    go_enter Tryz.func117, Tryz.ntmps117
    go_wp2_with (first
      | (at_builtin; refine wpList_append_own _ rfl (.tmp 8) (.tmp 11) 24 rfl w.heap.size 3 i0 (.int .i64 0) 1 8 Tryz.underlying24 hi hz0 hz1 hz2 rfl (by decide) (.slice none 0 0) 0 [] rfl (World.ownsRow_nil _ _ _ _) ⟨g, 0, none⟩ k c (intsV (l.take k)) rfl (by simp; omega) src1 (intsV_one _) (by unfold maxLen; have := HB.out; unfold lots at this; omega) (by have := HB.out; unfold lots at this; omega) (Nat.le_refl _) ?_; intro v1 w1 ho1 hg1 _
         have hb1 : Below w.heap.size w w1 := (Below.refl _ _).grown hg1 (Nat.le_refl _) (fun k e => by cases e)
         have ho1' : w1.ownsRow w.heap.size 3 1 v1 k (intsV (l.take k)) := by simpa using ho1
         clear ho1 hg1)
      | (at_builtin; refine wpList_append_own _ rfl (.tmp 13) (.tmp 15) 24 rfl w.heap.size 3 i0 (.int .i64 0) 1 8 Tryz.underlying24 hi hz0 hz1 hz2 rfl (by decide) v1 k _ rfl (ho1'.alloc _) ⟨w1.heap.size, 0, none⟩ 1 1 [.int .i64 n] rfl rfl (cell_one_new _ _ _) (by simp [Value.oneCell']) (by unfold maxLen; have := HB.out; unfold lots at this; omega) (by have := HB.out; unfold lots at this; omega) (by have := hb1.size; simp; omega) ?_; intro v2 w2 ho2 hg2 _
         have hb2 : Below w.heap.size w w2 := (hb1.alloc hb1.size _).grown hg2 (by have := hb1.size; simp; omega) (fun k e => (ho1'.lt k e).1)
         clear hg2 ho1' hb1)
      | (at_builtin; refine wpList_append_own _ rfl (.tmp 17) (.tmp 20) 24 rfl w.heap.size 3 i0 (.int .i64 0) 1 8 Tryz.underlying24 hi hz0 hz1 hz2 rfl (by decide) v2 (k + 1) _ rfl ho2 ad (l.length - k) (c - k) ((intsV l).drop k) rfl (by simp) (SRC.out w2 ((Keeps.of_below (F := fun _ => False) hb2).row hr (fun _ _ e => e))) (fun u hu => intsV_one l u (List.mem_of_mem_drop hu)) (by unfold maxLen; have := HB.out; unfold lots at this; omega) (by have := HB.out; unfold lots at this; omega) hb2.size ?_; intro v3 w3 ho3 hg3 _
         have hb3 : Below w.heap.size w w3 := hb2.grown hg3 hb2.size (fun k e => (ho2.lt k e).1)
         clear hg3 hb2))
    go_ret
    refine ⟨v3, rfl, ?_, hb3⟩
    have e1 : k + 1 + (l.length - k) = l.length + 1 := by omega
    have e2 : intsV (l.take k) ++ [Value.int .i64 (n : Int)] ++ (intsV l).drop k = intsV (l.take k ++ n :: l.drop k) := by simp [intsV]
    rw [e1, e2] at ho3
    exact ho3

set_option maxRecDepth 20000 in
set_option maxHeartbeats 400000 in
theorem without_any (l : List Nat) (v : Value) (k : Nat) (w : World) (hr : w.ownsRow 0 3 1 v l.length (intsV l)) (hk : k < l.length) (hbig : l.length < lots) :
    Calls Tryz.prog 120 #[v, .int .i64 k] w fun e w' => ∃ v', e = .returned v' ∧ w'.ownsRow w.heap.size 3 1 v' (l.length - 1) (intsV (l.take k ++ l.drop (k + 1))) ∧ Below w.heap.size w w' := by
  obtain ⟨i0, hi, hz0, hz1, hz2⟩ := info_parts Tryz.info3
  rcases row_cases hr with ⟨hv, hn⟩ | ⟨g, c, hv⟩
  · omega
  · subst hv
    have hkc : k ≤ c := Nat.le_trans (by omega) (row_cap hr)
    have HB : Hid (l.length < lots) := hbig
    have hk1 : (k : Int) + 1 ≤ 2000000 := by unfold lots at hbig; omega
    clear hbig
    have src1 := part_cells hr 0 (ys := intsV (l.take k)) (by intro j u hu; rw [intsV_take] at hu; rw [List.getElem?_take] at hu; split at hu <;> simp_all)
    obtain ⟨ad, hsl, hsrc⟩ := slice_from Tryz.underlying24 Tryz.elem24 Tryz.sizeOf3 hr (k + 1) hk
    have ec : (((k + 1 : Nat)) : Int) = (k : Int) + 1 := by omega
    rw [ec] at hsl
    have SRC : Hid (∀ w : World, w.ownsRow 0 3 1 (.slice (some ⟨g, 0, none⟩) l.length c) l.length (intsV l) → ∀ (j : Nat) (u : Value), ((intsV l).drop (k + 1))[j]? = some u → w.cell? (ad.add j) = some u) := hsrc
    clear hsrc ec
    go_enter Tryz.func120, Tryz.ntmps120
    go_wp2_with (first
      | (at_builtin; refine wpList_append_own _ rfl (.tmp 6) (.tmp 9) 24 rfl w.heap.size 3 i0 (.int .i64 0) 1 8 Tryz.underlying24 hi hz0 hz1 hz2 rfl (by decide) (.slice none 0 0) 0 [] rfl (World.ownsRow_nil _ _ _ _) ⟨g, 0, none⟩ k c (intsV (l.take k)) rfl (by simp; omega) src1 (intsV_one _) (by unfold maxLen; have := HB.out; unfold lots at this; omega) (by have := HB.out; unfold lots at this; omega) (Nat.le_refl _) ?_; intro v1 w1 ho1 hg1 _
         have hb1 : Below w.heap.size w w1 := (Below.refl _ _).grown hg1 (Nat.le_refl _) (fun k e => by cases e)
         have ho1' : w1.ownsRow w.heap.size 3 1 v1 k (intsV (l.take k)) := by simpa using ho1
         clear ho1 hg1)
      | (at_builtin; refine wpList_append_own _ rfl (.tmp 11) (.tmp 15) 24 rfl w.heap.size 3 i0 (.int .i64 0) 1 8 Tryz.underlying24 hi hz0 hz1 hz2 rfl (by decide) v1 k _ rfl ho1' ad (l.length - (k + 1)) (c - (k + 1)) ((intsV l).drop (k + 1)) rfl (by simp) (SRC.out w1 ((Keeps.of_below (F := fun _ => False) hb1).row hr (fun _ _ e => e))) (fun u hu => intsV_one l u (List.mem_of_mem_drop hu)) (by unfold maxLen; have := HB.out; unfold lots at this; omega) (by have := HB.out; unfold lots at this; omega) hb1.size ?_; intro v3 w3 ho3 hg3 _
         have hb3 : Below w.heap.size w w3 := hb1.grown hg3 hb1.size (fun k e => (ho1'.lt k e).1)
         clear hg3 hb1))
    go_ret
    refine ⟨v3, rfl, ?_, hb3⟩
    have e1 : k + (l.length - (k + 1)) = l.length - 1 := by omega
    have e2 : intsV (l.take k) ++ (intsV l).drop (k + 1) = intsV (l.take k ++ l.drop (k + 1)) := by simp [intsV]
    rw [e1, e2] at ho3
    exact ho3

end Go.Proofs.YtabogkonklplcaaGreatDoor
