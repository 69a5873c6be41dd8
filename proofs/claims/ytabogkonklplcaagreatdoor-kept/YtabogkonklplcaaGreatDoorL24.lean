import Derived.Test.YtabogkonklplcaaGreatDoorL16
import Derived.Deep.Cut
import Derived.Deep.CutRange
import Derived.Test.YtabogkonklplcaaGreatDoorL22
import Derived.Test.YtabogkonklplcaaGreatDoorL23
import Derived.Test.YtabogkonklplcaaGreatDoorL13

namespace Go.Proofs.YtabogkonklplcaaGreatDoor
open Go.RowKit
set_option linter.unusedSimpArgs false
set_option linter.unusedVariables false
section
variable {w : World} {F : Nat → Prop} {bd bn cap : Nat} {rn : List RN} {rv : Value} {s : List Nd} {rs : List Sp}
end
end Go.Proofs.YtabogkonklplcaaGreatDoor

namespace Go.Proofs.YtabogkonklplcaaGreatDoor
open Go.RowKit Go.Lib
set_option linter.unusedSimpArgs false
set_option linter.unusedVariables false
set_option maxHeartbeats 400000 in
theorem msplit_no {w : World} {F : Nat → Prop} {bx : Nat} {s s' : List Nd} {rs : List Sp} (hg : GG w) (hP : PLies w F bx ⟨s, rs⟩) {t : TypeId} {u : Value} {a y : Int} (A B : Int) (hE : ErrOf (.iface t u) a y)
    (hT : ∀ (F' : Nat → Prop) (bf : Nat), PFor w F' bf s → Calls Tryz.prog 63 #[ptr bf, .int .i64 A, .int .i64 B] w (TPost F' w bf s' (.tuple #[.int .i64 0, .nilFunc, .iface t u]))) :
    Calls Tryz.prog 30 #[ptr bx, .int .i64 A, .int .i64 B] w (PLPost F w bx ⟨s', rs⟩ (.tuple #[.int .i64 0, errV a y])) := by
  obtain ⟨bf, bl, sv, hD⟩ := hP
  have C := hid (hT _ _ hD.nodes)
  have c0 : w.cell? ⟨bx, 0, none⟩ = some (ptr bf) := cell_of_heap hD.doc 0
  have AF := hid (fun w1 w2 => pdoc_after (w1 := w1) (w2 := w2) (s' := s') hg hD)
  have AG := hid (fun w1 => gg_after (w1 := w1) (F := F) (bx := bx) (bl := bl) (sv := sv) hg)
  have E := hid (fun w1 (h1 : Glob w1) => mfollow_no h1 bx .nilFunc hE)
  clear hD hT hg hE
  go_enter Tryz.func30, Tryz.ntmps30
  go_wp2_with first
    | (go_at_call 63; refine C.out.mono ?_; rintro e w1 ⟨rfl, hk, hf⟩; have E1 := hid (E.out w1 (AG.out w1 hk)); have A1 := hid (fun w2 => AF.out w1 w2 hk hf); clear hk hf)
    | (go_at_call 64; refine E1.out.mono ?_; rintro e w2 ⟨rfl, hb⟩)
  go_ret2
  exact ⟨rfl, (A1.out _ hb).1, _, _, _, (A1.out _ hb).2⟩
theorem wf_half {s : List Nd} (wf : WF s) (h40 : s.length < 40) {n k : Nat} {x : Nd} (hx : s[n]? = some x) (ht : x.t = true) : WF ((s ++ [(⟨true, x.cs.drop k, [], -1⟩ : Nd)]).set n { x with cs := x.cs.take k }) := by
  have hch := wf.chars n x hx
  have hn := (List.getElem?_eq_some_iff.1 hx).1
  have w1 := wf_push wf h40 ⟨true, x.cs.drop k, [], -1⟩ rfl rfl (fun h => by cases h) ⟨by simp; omega, fun c hc => hch.2 c (List.mem_of_mem_drop hc)⟩
  exact wf_chars w1 (by rw [List.getElem?_append_left hn]; exact hx) ht ⟨by simp; omega, fun c hc => hch.2 c (List.mem_of_mem_take hc)⟩
end Go.Proofs.YtabogkonklplcaaGreatDoor

namespace Go.Proofs.YtabogkonklplcaaGreatDoor
open Go.RowKit Go.Lib
set_option linter.unusedSimpArgs false
set_option linter.unusedVariables false
def CmpInv (l m : List Nat) (w : World) (a : Value) (wr : World) : Prop := wr = w ∧ ∃ i : Nat, a = .int .i64 (i : Int) ∧ i ≤ l.length ∧ i ≤ m.length ∧ lexC l m = lexC (l.drop i) (m.drop i)
theorem lex_over {l : List Nat} {i : Nat} (h : i < l.length) : lexC (l.drop i) [] = 1 := by
  rw [List.drop_eq_getElem_cons h]; rfl
theorem lex_at {l m : List Nat} {i : Nat} (h : i < l.length) (h' : i < m.length) : lexC (l.drop i) (m.drop i) = if Lib.compareInt (l[i] : Int) (m[i] : Int) = 0 then lexC (l.drop (i + 1)) (m.drop (i + 1)) else Lib.compareInt (l[i] : Int) (m[i] : Int) := by
  rw [List.drop_eq_getElem_cons h, List.drop_eq_getElem_cons h']
  generalize l.drop (i + 1) = A
  generalize m.drop (i + 1) = B
  generalize l[i] = a
  generalize m[i] = b
  have e : lexC (a :: A) (b :: B) = if a < b then -1 else if b < a then 1 else lexC A B := rfl
  rw [e]
  by_cases h1 : a < b
  · have hc : Lib.compareInt (a : Int) (b : Int) = -1 := by unfold Lib.compareInt; rw [if_pos (by omega)]
    rw [hc, if_pos h1, if_neg (by decide)]
  · by_cases h2 : b < a
    · have hc : Lib.compareInt (a : Int) (b : Int) = 1 := by unfold Lib.compareInt; rw [if_neg (by omega), if_pos (by omega)]
      rw [hc, if_neg h1, if_pos h2, if_neg (by decide)]
    · have hc : Lib.compareInt (a : Int) (b : Int) = 0 := by unfold Lib.compareInt; rw [if_neg (by omega), if_neg (by omega)]
      rw [hc, if_neg h1, if_neg h2, if_pos rfl]
theorem lex_done {l m : List Nat} (h : l.length ≤ m.length) : lexC (l.drop l.length) (m.drop l.length) = if l.length < m.length then -1 else 0 := by
  rw [List.drop_length]
  by_cases hl : l.length < m.length
  · rw [if_pos hl, List.drop_eq_getElem_cons hl]; rfl
  · rw [if_neg hl, List.drop_of_length_le (by omega)]; rfl
set_option maxRecDepth 20000 in
set_option maxHeartbeats 1000000 in
theorem scmp_any (l m : List Nat) (g1 c1 g2 c2 : Nat) (w : World) (h1 : ∀ (j x : Nat), l[j]? = some x → w.cell? ⟨g1, j, none⟩ = some (.int .i64 x)) (h2 : ∀ (j x : Nat), m[j]? = some x → w.cell? ⟨g2, j, none⟩ = some (.int .i64 x)) (hl : l.length < lots) (hm : m.length < lots) :
    Calls Tryz.prog 152 #[.slice (some ⟨g1, 0, none⟩) l.length c1, .slice (some ⟨g2, 0, none⟩) m.length c2] w fun e w' => e = .returned (.int .i64 (lexC l m)) ∧ w' = w := by
  have H1 := hid h1
  have H2 := hid h2
  unfold lots at hl hm
  clear h1 h2
  go_enter Tryz.func152, Tryz.ntmps152
  go_wp2
  go_loopw [11] (fun a wr => CmpInv l m w a wr) (fun a _ => l.length - (intOf a).toNat)
  case atStart => exact ⟨rfl, 0, rfl, Nat.zero_le _, Nat.zero_le _, rfl⟩
  case round =>
    obtain ⟨rfl, i, rfl, hi, hi2, he⟩ := hrel
    have HE := hid he
    clear he
    by_cases hlt : i < l.length
    · have a1 := H1.out i l[i] (List.getElem?_eq_getElem hlt)
      have d1 : decide ((i : Int) < (l.length : Int)) = true := decide_eq_true (by omega)
      by_cases hm2 : i < m.length
      · have a2 := H2.out i m[i] (List.getElem?_eq_getElem hm2)
        have d2 : decide ((m.length : Int) ≤ (i : Int)) = false := decide_eq_false (by omega)
        have LA := hid (lex_at hlt hm2)
        have C := hid (Tryz.cmp_Compare_int (l[i] : Int) (m[i] : Int) wr)
        obtain ⟨c, hc⟩ : ∃ c, Lib.compareInt (l[i] : Int) (m[i] : Int) = c := ⟨_, rfl⟩
        rw [hc] at C LA
        clear hc
        generalize l[i] = lv at *
        generalize m[i] = mv at *
        by_cases h0 : c = 0
        · subst h0
          go_wp2_with (go_at_call 180; refine C.out.mono ?_; rintro e w1 ⟨rfl, hw1⟩; replace hw1 := hw1.symm; subst hw1)
          go_roundw
          case rel =>
            refine ⟨rfl, i + 1, by go_num, hlt, hm2, ?_⟩
            rw [HE.out, LA.out]; simp
          case measure =>
            show l.length - ((i : Int) + 1).toNat < l.length - ((i : Int)).toNat
            omega
        · have h0' : (c == 0) = false := by simpa using h0
          go_wp2_with (go_at_call 180; refine C.out.mono ?_; rintro e w1 ⟨rfl, hw1⟩; replace hw1 := hw1.symm; subst hw1)
          go_ret
          refine ⟨?_, rfl⟩
          rw [HE.out, LA.out, if_neg h0]; rfl
      · have d2 : decide ((m.length : Int) ≤ (i : Int)) = true := decide_eq_true (by omega)
        go_wp2
        go_ret
        refine ⟨?_, rfl⟩
        have hd : m.drop i = [] := List.drop_of_length_le (by omega)
        rw [HE.out, hd, lex_over hlt]; rfl
    · obtain rfl : i = l.length := by omega
      have LD := hid (lex_done hi2)
      by_cases hlm : l.length < m.length
      · have d3 : decide ((l.length : Int) < (m.length : Int)) = true := decide_eq_true (by omega)
        go_wp2
        go_ret
        refine ⟨?_, rfl⟩
        rw [HE.out, LD.out, if_pos hlm]; rfl
      · have d3 : decide ((l.length : Int) < (m.length : Int)) = false := decide_eq_false (by omega)
        go_wp2
        go_ret
        refine ⟨?_, rfl⟩
        rw [HE.out, LD.out, if_neg hlm]; rfl
end Go.Proofs.YtabogkonklplcaaGreatDoor

namespace Go.Proofs.YtabogkonklplcaaGreatDoor
open Go.RowKit Go.Lib
set_option linter.unusedSimpArgs false
set_option linter.unusedVariables false
theorem below_draw (w : World) (q : Nat) : Below w.heap.size w (w.drewN q) := ⟨rfl, rfl, rfl, Nat.le_refl _, fun _ _ => rfl⟩
theorem flat_len {f : Nat → List Nat} {ks : List Nat} {c : Nat} (h : c ∈ ks) : (f c).length ≤ (ks.flatMap f).length := by
  induction ks with
  | nil => cases h
  | cons a l ih =>
    rw [List.flatMap_cons, List.length_append]
    rcases List.mem_cons.1 h with rfl | h
    · omega
    · have := ih h; omega
theorem up40 {s : List Nd} (wf : WF s) : ∃ h, Up s h 40 := by
  obtain ⟨h, B, u⟩ := wf.up
  refine ⟨fun n => if n < s.length then (allF s (h n + 1) n).length else 0, fun i => ?_, fun i x hx hp => ?_⟩
  · show (if i < s.length then (allF s (h i + 1) i).length else 0) ≤ 40
    split
    · exact all_length wf _ _ ‹_›
    · omega
  · have hi := (List.getElem?_eq_some_iff.1 hx).1
    obtain ⟨h1, h2⟩ := u.par i x hx hp
    refine ⟨h1, ?_⟩
    rcases wf.par i x hx with e | ⟨q, y, e, hy, hm⟩
    · omega
    · have hq := (List.getElem?_eq_some_iff.1 hy).1
      rw [e] at h2 ⊢
      simp only [Int.toNat_natCast] at h2 ⊢
      rw [if_pos hi, if_pos hq]
      have e2 : allF s (h q + 1) q = q :: (kidsOf s q).flatMap (allF s (h q)) := rfl
      have e3 : allF s (h i + 1) i = allF s (h q) i := all_stable wf u _ _ _ (by omega) h2
      rw [e2, e3, List.length_cons]
      have := flat_len (f := allF s (h q)) (show i ∈ kidsOf s q by rw [kidsOf_eq hy]; exact hm)
      omega
theorem way_top {s : List Nd} {t n : Nat} {l : List Nat} (wf : WF s) (w : Way s t n l) {x : Nd} (hx : s[t]? = some x) (hp : x.p = -1) : IsTop s n t := by
  induction w with
  | top => exact ⟨⟨0, rfl⟩, x, hx, hp⟩
  | @down q c i l y w hq hi ih =>
    obtain ⟨z, hz, hzp⟩ := wf.kid q y hq c (List.mem_of_getElem? hi)
    exact IsTop.up hz hzp ih
def PathInv (s : List Nd) (h : Nat → Nat) (n k : Nat) (w : World) (pv nv : Value) (wr : World) : Prop :=
  ∃ (c : Nat) (l : List Nat), nv = .int .i64 (c : Int) ∧ wr.ownsRow (w.heap.size + 1) 3 1 pv (l.length + 1) (intsV (k :: l.reverse)) ∧ Below w.heap.size w wr ∧ w.heap.size + 1 ≤ wr.heap.size ∧ c < s.length ∧ h n + l.length ≤ h c ∧ (∀ t L, Way s t c L → Way s t n (L ++ l))
def PathPost (s : List Nd) (n k : Nat) (w : World) (e : Ending) (w' : World) : Prop :=
  ∃ (t : Nat) (l : List Nat) (g c : Nat), e = .returned (.slice (some ⟨g, 0, none⟩) (l ++ [k]).length c) ∧ Way s t n l ∧ IsTop s n t ∧ l.length ≤ 40 ∧ w.heap.size ≤ g ∧ g < w'.heap.size ∧ (∀ (j x : Nat), (l ++ [k])[j]? = some x → w'.cell? ⟨g, j, none⟩ = some (.int .i64 (x : Int))) ∧ Below w.heap.size w w'
section
variable {w : World} {F : Nat → Prop} {bf bn cap : Nat} {pn : List PN} {s : List Nd}
set_option maxRecDepth 20000 in
set_option maxHeartbeats 1000000 in
theorem tpath_any (wf : WF s) (hD : PForAt w F bf bn cap pn s) (n k : Nat) (hn : n < s.length) :
    Calls Tryz.prog 153 #[ptr bf, .agg #[.int .i64 (n : Int), .int .i64 (k : Int)]] w (PathPost s n k w) := by
  obtain ⟨h, u⟩ := up40 wf
  obtain ⟨i0, hi, hz0, hz1, hz2⟩ := info_parts Tryz.infoInt
  have hcap := wf.cap
  have h0 := hD.nodesCell
  have hlt := hD.lt
  have HD := hid hD
  have HW := hid wf
  have HU := hid u
  clear hD wf u
  go_enter Tryz.func153, Tryz.ntmps153
  go_wp2
  go_loopw [5, 6] (fun pv nv wr => PathInv s h n k w pv nv wr) (fun _ nv _ => upMeas h 40 (intOf nv))
  case atStart =>
    refine ⟨n, [], rfl, ?_, ?_, ?_, hn, by simp, fun t L hw => by simpa using hw⟩
    · have := World.ownsRow_lit (base := w.heap.size + 1) (e := 3) (size := 1) (w.alloc (.cells #[.int .i64 (n : Int), .int .i64 (k : Int)] 37)) #[.int .i64 (k : Int)] 1 (by simp) (by decide) rfl
      simpa [intsV] using this
    · exact ((Below.refl _ w).alloc (Nat.le_refl _) _).alloc (by simp) _
    · simp
  case round =>
    obtain ⟨c, l, rfl, hrow, hb, hsz, hc, hlen, hway⟩ := hrel
    obtain ⟨x, hx⟩ : ∃ x, s[c]? = some x := ⟨_, List.getElem?_eq_getElem hc⟩
    have hD1 := HD.out.below hb
    have g0 := hD1.nodesCell
    obtain ⟨r, hr, ho, c0, c1, c2, c3⟩ := hD1.look hx
    have hl1 := hD1.lt
    have hh40 := HU.out.le c
    clear c1 c2 c3 hr ho
    by_cases hp : 0 ≤ x.p
    · obtain ⟨j, m, y, hj, hy, hm, hno, hyl⟩ := HW.out.place hx hp
      have CI := hid (tindex_at hD1 c j m x y hx hj hy hm hno (by unfold lots; omega) (by unfold lots; omega))
      have hup := (HU.out.par c x hx hp).2
      have hjl := (List.getElem?_eq_some_iff.1 hy).1
      have hum := upMeas_lt HU.out hx
      rw [hj] at c0 hup hum
      have HROW := hid hrow
      have HB := hid hb
      have HD1 := hid hD1
      have HWAY := hid (And.intro hway (And.intro hy hm))
      have HUM := hid hum
      have HXX := hid hx
      have HJ := hid hj
      clear hrow hb hD1 hway hx hy hm hno hum
      go_wp2_with (first
        | (go_at_call 106; refine CI.out.mono ?_; rintro e w1 ⟨rfl, q, rfl⟩
           have e0 := (cell_drewN _ q _).trans g0
           have e1 := (cell_drewN _ q _).trans c0)
        | (at_builtin
           go_must (have HS : Hid (SrcOk ((wr.drewN q).alloc (.cells #[.int .i64 (m : Int)] 3)) 1 (.slice (some ⟨wr.heap.size, 0, none⟩) 1 1) 1 [.int .i64 (m : Int)]) := .inr ⟨_, _, rfl, rfl, cell_one_new (wr.drewN q) _ _, by simp [Value.oneCell']⟩)
           have hr1 : (wr.drewN q).ownsRow (w.heap.size + 1) 3 1 u5 (l.length + 1) (intsV (k :: l.reverse)) := HROW.out
           refine wpList_append_any _ rfl (.tmp 29) (.tmp 33) 24 rfl (w.heap.size + 1) 3 i0 (.int .i64 0) 1 8 Tryz.underlying24 hi hz0 hz1 hz2 rfl (by decide) _ (l.length + 1) _ rfl (hr1.alloc _) _ 1 _ rfl HS.out (by unfold maxLen; omega) (by omega) (by simp; omega) ?_
           intro v2 w2 ho2 hb2
           have hB2 : Below w.heap.size w w2 := HB.out.trans (((below_draw wr q).alloc (Nat.le_refl _) _ |>.mono HB.out.size).trans (hb2.mono (by omega)))
           have f0 := (hB2.cell (p := ⟨bf, 0, none⟩) hlt.1).trans h0
           have f1 := hb2.cell (p := ⟨bn, c * 4, none⟩)
           have HO2 := hid ho2
           have HB2 := hid (And.intro hB2 hb2.size)
           have hD2 := HD.out.below hB2
           obtain ⟨r2, hr2, ho3, k0, -, -, -⟩ := hD2.look HXX.out
           rw [HJ.out] at k0
           clear ho2 hb2 hB2 f1 hr2 ho3 hD2 hr1))
      go_roundw
      case rel =>
        refine ⟨j, m :: l, rfl, ?_, HB2.out.1, ?_, hjl, ?_, fun t L hw => ?_⟩
        · have := HO2.out
          simpa [intsV] using this
        · have := HB2.out.2; simp at this; omega
        · simp at hup ⊢; omega
        · have := HWAY.out.1 t (L ++ [m]) (Way.down hw HWAY.out.2.1 HWAY.out.2.2)
          simpa using this
      case measure => exact HUM.out
    · have hp1 : x.p = -1 := by
        rcases HW.out.par c x hx with e | ⟨q, y, e, _⟩
        · exact e
        · omega
      rw [hp1] at c0
      obtain ⟨g, cp, cur, hv, hh, hn2, hcm, hcs, ht, hcell, hfr⟩ := row_ints (ks := k :: l.reverse) (by simpa using ownsRow_zero hrow) (by simp)
      have hg : w.heap.size + 1 ≤ g := by rw [hv] at hrow; exact (hrow.lt g rfl).1
      have CR := hid (Tryz.slices_Reverse_int_cells g 0 (l.length + 1) cp ((k :: l.reverse).map Int.ofNat) wr (by simp) (by omega) hcell (fun j hj => hfr j (by simpa using hj)))
      have hv' : u5 = .slice (some ⟨g, 0, none⟩) (l.length + 1) cp := by simpa using hv
      have HF := hid (And.intro hcell hfr)
      have hn3 : l.length + 1 ≤ cur.size := by rw [hcs]; simpa using hn2
      have HB := hid hb
      have HH := hid hh
      have HWAY := hid (hway c [] Way.top)
      have HX := hid hx
      subst hv'
      clear hrow hb hcell hfr hh ht hway hx hv
      have hvals : (((k :: l.reverse).map Int.ofNat).take (l.length + 1)).reverse.map (Value.int .i64) = intsV (l ++ [k]) := by
        rw [List.take_of_length_le (by simp)]; simp [intsV]
      rw [hvals] at CR
      clear hvals
      go_wp2_with (go_at_call 181; refine CR.out.mono ?_; rintro e w3 ⟨rfl, q, hw3⟩
                   have hk0 : Keeps (fun b => b = g) wr (wr.drewN q) := ⟨rfl, rfl, rfl, Nat.le_refl _, fun _ _ _ => rfl⟩
                   have hK : Keeps (fun b => b = g) wr w3 := by rw [hw3]; exact keeps_setCells g _ 0 _ hk0 rfl
                   obtain ⟨cur', k1, k2, k3⟩ := heap_setCells g 3 (intsV (l ++ [k])) 0 (wr.drewN q) cur HH.out (by rw [intsV_length]; simp; omega)
                   rw [← hw3] at k1
                   have HK := hid (And.intro hK (And.intro k1 k3))
                   clear hw3 hK k1 k3 k2 hk0)
      go_ret
      obtain ⟨hK, k1, k3⟩ := HK.out
      have hz := HB.out.size
      have hz2 := hK.size
      refine ⟨c, l, g, cp, by simp, by simpa using HWAY.out, way_top HW.out (by simpa using HWAY.out) HX.out hp1, by omega, by omega, heap_lt k1, fun j x hx => ?_, ?_⟩
      · rw [cell_of_heap k1 j, ← Array.getElem?_toList, k3]
        simp only [List.take_zero, List.nil_append]
        have hj : j < (intsV (l ++ [k])).length := by rw [intsV_length]; exact (List.getElem?_eq_some_iff.1 hx).1
        rw [List.getElem?_append_left hj]
        simp only [intsV, List.getElem?_map, hx]
        rfl
      · exact HB.out.trans ⟨hK.os, hK.tape, hK.output, hK.size, fun b hb => hK.block b (by omega) (by omega)⟩
end
end Go.Proofs.YtabogkonklplcaaGreatDoor

namespace Go.Proofs.YtabogkonklplcaaGreatDoor
set_option linter.unusedSimpArgs false
set_option linter.unusedVariables false
abbrev enc (l : List Nat) : List Nat := l.map (fun i => 2 * i + 1)
theorem pw_eq (l : List Nat) (k : Nat) : pw l k = enc l ++ [2 * k] := rfl
def leP (P Q : List Nat) : Prop := P = Q ∨ lexN P Q
def under : List Nat → (List Nat → List Nat) → List Nat → List Nat
  | [], g, P => g P
  | _ :: _, _, [] => []
  | p :: P1, g, q :: P => if q = p then q :: under P1 g P else q :: P
theorem under_at (P1 : List Nat) (g : List Nat → List Nat) (P : List Nat) : under P1 g (P1 ++ P) = P1 ++ g P := by
  induction P1 with
  | nil => rfl
  | cons p P1 ih => simp [under, ih]
theorem leP_cons {a : Nat} {P Q : List Nat} (h : leP P Q) : leP (a :: P) (a :: Q) := by
  rcases h with rfl | h
  · exact .inl rfl
  · exact .inr (.cons h)
def IsPw (P : List Nat) : Prop := ∃ l k, P = pw l k
theorem IsPw.tail {a : Nat} {P : List Nat} (h : IsPw (a :: P)) (ha : a % 2 = 1) : IsPw P := by
  obtain ⟨l, k, h⟩ := h
  cases l with
  | nil => simp [pw] at h; omega
  | cons b l =>
    rw [pw_cons] at h
    injection h with h1 h2
    exact ⟨l, k, h2⟩
theorem IsPw.ne {P : List Nat} (h : IsPw P) : P ≠ [] := by
  obtain ⟨l, k, rfl⟩ := h
  simp [pw]
theorem under_snoc {g : List Nat → List Nat} (hg : ∀ a r e, g (a :: r ++ [e]) = g (a :: r) ++ [e]) : ∀ (P1 X : List Nat) (e : Nat), X ≠ P1 → under P1 g (X ++ [e]) = under P1 g X ++ [e] ∨ (∃ Y, P1 = X ++ e :: Y) := by
  intro P1
  induction P1 with
  | nil =>
    intro X e hX
    cases X with
    | nil => exact absurd rfl hX
    | cons a X => exact .inl (hg a X e)
  | cons p P1 ih =>
    intro X e hX
    cases X with
    | nil =>
      by_cases h : e = p
      · subst h; exact .inr ⟨P1, rfl⟩
      · left; simp [under, h]
    | cons a X =>
      by_cases h : a = p
      · subst h
        rcases ih X e (fun e => hX (by rw [e])) with h1 | ⟨Y, h1⟩
        · left; simp [under, h1]
        · right; exact ⟨Y, by rw [h1]; rfl⟩
      · left; simp [under, h]
theorem under_short {g : List Nat → List Nat} (h0 : g [] = []) : ∀ (P1 X Y : List Nat), P1 = X ++ Y → under P1 g X = X := by
  intro P1
  induction P1 with
  | nil => intro X Y h; simp at h; rw [h.1]; exact h0
  | cons p P1 ih =>
    intro X Y h
    cases X with
    | nil => rfl
    | cons a X =>
      simp at h
      obtain ⟨rfl, h⟩ := h
      simp [under, ih X Y h]
theorem under_snoc0 {g : List Nat → List Nat} (hg : ∀ a r e, g (a :: r ++ [e]) = g (a :: r) ++ [e]) (h0 : g [] = []) (P1 X : List Nat) (e : Nat) (hX : X ≠ P1) : under P1 g (X ++ [e]) = under P1 g X ++ [e] := by
  rcases under_snoc hg P1 X e hX with h | ⟨Y, h⟩
  · exact h
  · rw [under_short h0 P1 (X ++ [e]) Y (by rw [h]; simp), under_short h0 P1 X (e :: Y) h]
theorem enc_inj {l m : List Nat} (h : enc l = enc m) : l = m := (List.map_inj_right (fun a b e => by omega)).1 h
theorem snoc_cases {α : Type} (l : List α) : l = [] ∨ ∃ m a, l = m ++ [a] := by
  rcases List.eq_nil_or_concat l with h | ⟨m, a, h⟩
  · exact .inl h
  · exact .inr ⟨m, a, by rw [h, List.concat_eq_append]⟩
theorem Way.node {s : List Nd} {t n : Nat} {l : List Nat} (w : Way s t n l) : ∀ {m : Nat}, Way s t m l → n = m := by
  induction w with
  | top =>
    intro m w
    generalize hl : ([] : List Nat) = l at w
    cases w with
    | top => rfl
    | down _ _ _ => simp at hl
  | @down q c i l y w hq hi ih =>
    intro m w2
    generalize hl : l ++ [i] = l2 at w2
    cases w2 with
    | top => simp at hl
    | @down q2 _ i2 l2 y2 w3 hq2 hi2 =>
      have h1 := List.append_inj_left' hl rfl
      have h2 := List.append_inj_right' hl rfl
      subst h1
      simp at h2
      subst h2
      obtain rfl := ih w3
      rw [hq] at hq2
      cases hq2
      rw [hi] at hi2
      exact Option.some.inj hi2
theorem Way.only {s : List Nd} (wf : WF s) {t n : Nat} {l : List Nat} (w : Way s t n l) (ht : ∃ x, s[t]? = some x ∧ x.p = -1) : ∀ {l2 : List Nat}, Way s t n l2 → l = l2 := by
  induction w with
  | top =>
    intro l2 w2
    cases w2 with
    | top => rfl
    | @down q _ i l y w3 hq hi =>
      exfalso
      obtain ⟨x, hx, hp⟩ := ht
      obtain ⟨z, hz, hzp⟩ := wf.kid q y hq t (List.mem_of_getElem? hi)
      rw [hx] at hz
      cases hz
      omega
  | @down q c i l y w hq hi ih =>
    intro l2 w2
    obtain ⟨z, hz, hzp⟩ := wf.kid q y hq c (List.mem_of_getElem? hi)
    cases w2 with
    | top =>
      exfalso
      obtain ⟨x, hx, hp⟩ := ht
      rw [hx] at hz
      cases hz
      omega
    | @down q2 _ i2 l2 y2 w3 hq2 hi2 =>
      obtain ⟨z2, hz2, hzp2⟩ := wf.kid q2 y2 hq2 c (List.mem_of_getElem? hi2)
      rw [hz] at hz2
      cases hz2
      obtain rfl : q = q2 := by omega
      rw [hq] at hq2
      cases hq2
      obtain rfl := ih w3
      have hnd := wf.nodup q y hq
      have : i = i2 := by
        have h1 := (List.getElem?_eq_some_iff.1 hi)
        have h2 := (List.getElem?_eq_some_iff.1 hi2)
        exact (List.getElem_inj hnd).1 (h1.2.trans h2.2.symm)
      rw [this]
theorem Way.moved {s s' : List Nd} (wf : WF s) {t p : Nat} {lp : List Nat} (ht : ∃ x, s[t]? = some x ∧ x.p = -1) (wp : Way s t p lp) (out : Nat → Prop) (φ : Nat → Nat) {g : List Nat → List Nat} (g0 : g [] = []) (gs : ∀ a r e, g (a :: r ++ [e]) = g (a :: r) ++ [e])
    (g1 : ∀ (i c : Nat) (y : Nd), s[p]? = some y → y.ks[i]? = some c → ¬ out c → g [2 * i + 1] = [2 * φ i + 1])
    (h1 : ∀ (i c : Nat) (y : Nd), s[p]? = some y → y.ks[i]? = some c → ¬ out c → ∃ y', s'[p]? = some y' ∧ y'.ks[φ i]? = some c)
    (h2 : ∀ (q i c : Nat) (y : Nd), q ≠ p → s[q]? = some y → y.ks[i]? = some c → ¬ out c → ∃ y', s'[q]? = some y' ∧ y'.ks[i]? = some c)
    (ho : ∀ (q i c : Nat) (y : Nd), s[q]? = some y → y.ks[i]? = some c → ¬ out c → ¬ out q) {n : Nat} {l : List Nat} (w : Way s t n l) : ¬ out n → ∃ l', Way s' t n l' ∧ enc l' = under (enc lp) g (enc l) := by
  induction w with
  | top =>
    intro _
    refine ⟨[], .top, ?_⟩
    cases hlp : enc lp with
    | nil => simp [under, g0]
    | cons a r => simp [under]
  | @down q c i l y w hq hi ih =>
    intro hc
    obtain ⟨l', w', e'⟩ := ih (ho q i c y hq hi hc)
    have e1 : enc (l ++ [i]) = enc l ++ [2 * i + 1] := by simp [enc]
    by_cases hqp : q = p
    · subst hqp
      obtain rfl := wp.only wf ht w
      obtain ⟨y', hy', hi'⟩ := h1 i c y hq hi hc
      have e2 : l' = lp := by
        have h3 := under_at (enc lp) g []
        rw [List.append_nil, g0, List.append_nil] at h3
        rw [h3] at e'
        exact enc_inj e'
      subst e2
      refine ⟨l' ++ [φ i], .down w' hy' hi', ?_⟩
      rw [e1, under_at, g1 i c y hq hi hc]
      simp [enc]
    · obtain ⟨y', hy', hi'⟩ := h2 q i c y hqp hq hi hc
      refine ⟨l' ++ [i], .down w' hy' hi', ?_⟩
      have hne : enc l ≠ enc lp := fun e => hqp (w.node (by rw [enc_inj e]; exact wp))
      rw [e1, under_snoc0 gs g0 _ _ _ hne, ← e']
      simp [enc]
theorem lex_three : ∀ (P Q : List Nat), lexN P Q ∨ P = Q ∨ lexN Q P := by
  intro P
  induction P with
  | nil =>
    intro Q
    cases Q with
    | nil => exact .inr (.inl rfl)
    | cons b Q => exact .inl .nil
  | cons a P ih =>
    intro Q
    cases Q with
    | nil => exact .inr (.inr .nil)
    | cons b Q =>
      rcases Nat.lt_trichotomy a b with h | h | h
      · exact .inl (.rel h)
      · subst h
        rcases ih Q with h | h | h
        · exact .inl (.cons h)
        · exact .inr (.inl (by rw [h]))
        · exact .inr (.inr (.cons h))
      · exact .inr (.inr (.rel h))
theorem leP_of_lexC {l l2 : List Nat} {k k2 : Nat} (h : lexC (l ++ [k]) (l2 ++ [k2]) ≤ 0) : leP (pw l k) (pw l2 k2) := by
  rcases lex_three (pw l k) (pw l2 k2) with h1 | h1 | h1
  · exact .inr h1
  · exact .inl h1
  · have := lexC_lt _ _ _ _ h1
    rw [lexC_neg, this] at h
    simp at h
theorem way_to {s : List Nd} (wf : WF s) {n t : Nat} (ht : IsTop s n t) (hn : n < s.length) : ∃ l, Way s t n l := by
  obtain ⟨⟨m, hm⟩, x, hx, hp⟩ := ht
  have key : ∀ (m n : Nat), n < s.length → climb s m n = (t : Int) → ∃ l, Way s t n l := by
    intro m
    induction m with
    | zero =>
      intro n hn h
      have : n = t := by simp [climb] at h; omega
      subst this
      exact ⟨[], .top⟩
    | succ m ih =>
      intro n hn h
      have hx := List.getElem?_eq_getElem hn
      rcases wf.par n _ hx with hp | ⟨i, y, hp, hy, hc⟩
      · exfalso
        have h1 : climb s 1 n = -1 := by simp [climb, parOf, hx, hp]
        have h2 := climb_neg (s := s) (j := 1) (n := n) (by rw [h1]; decide) m
        rw [Nat.add_comm] at h2
        omega
      · have h1 : climb s 1 n = (i : Int) := by simp [climb, parOf, hx, hp]
        have h2 := climb_add h1 m
        rw [Nat.add_comm] at h2
        rw [h2] at h
        obtain ⟨l, wl⟩ := ih i (List.getElem?_eq_some_iff.1 hy).1 h
        obtain ⟨k, hk, e⟩ := List.mem_iff_getElem.1 hc
        exact ⟨l ++ [k], .down wl hy (by rw [List.getElem?_eq_getElem hk, e])⟩
  exact key m n hn hm
def SpIs (s : List Nd) (z : Sp) : Prop := ∃ (n k n2 k2 t : Nat) (l l2 : List Nat), z = ⟨n, k, n2, k2⟩ ∧ PlOk s n k ∧ PlOk s n2 k2 ∧ IsTop s n t ∧ Way s t n l ∧ Way s t n2 l2 ∧ leP (pw l k) (pw l2 k2)
theorem SpIs.ok {s : List Nd} {z : Sp} (h : SpIs s z) : SpOk s z := by
  obtain ⟨n, k, n2, k2, t, l, l2, rfl, h1, h2, _⟩ := h
  exact ⟨h1, h2⟩
def Good (s : List Nd) (t : Nat) (P : List Nat) : Prop := ∃ (n k : Nat) (l : List Nat), PlOk s n k ∧ Way s t n l ∧ P = pw l k
structure Moves (s s' : List Nd) (t t' : Nat) (f : Mvf) (E : List Nat → List Nat) : Prop where
  mono : ∀ P Q, Good s t P → Good s t Q → lexN P Q → leP (E P) (E Q)
  top : ∃ x, s'[t']? = some x ∧ x.p = -1
  one : ∀ (n k : Nat) (l : List Nat), PlOk s n k → Way s t n l → ∃ (n' k' : Nat) (l' : List Nat), f n k = ((n' : Int), (k' : Int)) ∧ PlOk s' n' k' ∧ Way s' t' n' l' ∧ pw l' k' = E (pw l k)
theorem SpIs.mv {s s' : List Nd} (wf' : WF s') {f : Mvf} (h : ∀ t, (∃ x, s[t]? = some x ∧ x.p = -1) → ∃ t' E, Moves s s' t t' f E) {z : Sp} (hz : SpIs s z) : SpIs s' (mvSp f z) := by
  obtain ⟨n, k, n2, k2, t, l, l2, rfl, h1, h2, ht, w1, w2, hle⟩ := hz
  obtain ⟨t', E, M⟩ := h t ht.2
  obtain ⟨n', k', l', e1, p1, w1', q1⟩ := M.one n k l h1 w1
  obtain ⟨n2', k2', l2', e2, p2, w2', q2⟩ := M.one n2 k2 l2 h2 w2
  obtain ⟨x, hx, hp⟩ := M.top
  refine ⟨n', k', n2', k2', t', l', l2', ?_, p1, p2, way_top wf' w1' hx hp, w1', w2', ?_⟩
  · simp only [mvSp, e1, e2]
  · rw [q1, q2]
    rcases hle with h | h
    · exact .inl (by rw [h])
    · exact M.mono _ _ ⟨_, _, _, h1, w1, rfl⟩ ⟨_, _, _, h2, w2, rfl⟩ h
theorem under_le2 {g : List Nat → List Nat} {ok : List Nat → Prop} (hg : ∀ R R', ok R → ok R' → lexN R R' → leP (g R) (g R')) :
    ∀ (P1 P Q : List Nat), (∀ R, P = P1 ++ R → ok R) → (∀ R, Q = P1 ++ R → ok R) → lexN P Q → leP (under P1 g P) (under P1 g Q) := by
  intro P1
  induction P1 with
  | nil => intro P Q hP hQ h; exact hg P Q (hP P rfl) (hQ Q rfl) h
  | cons p P1 ih =>
    intro P Q hP hQ h
    cases Q with
    | nil => exact absurd h (fun h => lexN_nil h)
    | cons b Q =>
      cases P with
      | nil =>
        have : ∃ Y, under (p :: P1) g (b :: Q) = b :: Y := by
          simp only [under]
          by_cases h2 : b = p <;> simp [h2]
        obtain ⟨Y, e⟩ := this
        rw [e]
        exact .inr .nil
      | cons a P =>
        rcases lexN_cons h with hab | ⟨rfl, hPQ⟩
        · have : ∃ X Y, under (p :: P1) g (a :: P) = a :: X ∧ under (p :: P1) g (b :: Q) = b :: Y := by
            simp only [under]
            by_cases h1 : a = p <;> by_cases h2 : b = p <;> simp [h1, h2]
          obtain ⟨X, Y, e1, e2⟩ := this
          rw [e1, e2]
          exact .inr (.rel hab)
        · simp only [under]
          by_cases h1 : a = p
          · subst h1
            simp only [if_true]
            exact leP_cons (ih P Q (fun R e => hP R (by rw [e]; rfl)) (fun R e => hQ R (by rw [e]; rfl)) hPQ)
          · simp only [h1, if_false]
            exact .inr (.cons hPQ)
theorem Way.cut {s : List Nd} {t n : Nat} {l : List Nat} (w : Way s t n l) : ∀ (l1 : List Nat) (c : Nat) (l2 : List Nat), l = l1 ++ c :: l2 → ∃ (p q : Nat) (y : Nd), Way s t p l1 ∧ s[p]? = some y ∧ y.ks[c]? = some q ∧ Way s q n l2 := by
  induction w with
  | top => intro l1 c l2 h; simp at h
  | @down q c i l y w hq hi ih =>
    intro l1 d l2 h
    rcases snoc_cases l2 with rfl | ⟨l3, a, rfl⟩
    · have h1 := List.append_inj_left' h rfl
      have h2 := List.append_inj_right' h rfl
      simp at h2
      subst h1
      subst h2
      exact ⟨q, c, y, w, hq, hi, .top⟩
    · have e : l1 ++ d :: (l3 ++ [a]) = (l1 ++ d :: l3) ++ [a] := by simp
      rw [e] at h
      have h1 := List.append_inj_left' h rfl
      have h2 := List.append_inj_right' h rfl
      simp at h2
      subst h2
      obtain ⟨p, q2, y2, w1, hy2, hq2, w2⟩ := ih l1 d l3 h1
      exact ⟨p, q2, y2, w1, hy2, hq2, .down w2 hq hi⟩
theorem Way.append {s : List Nd} {t q n : Nat} {l1 l2 : List Nat} (w1 : Way s t q l1) (w2 : Way s q n l2) : Way s t n (l1 ++ l2) := by
  induction w2 with
  | top => simpa using w1
  | @down p c i l y w hp hi ih => rw [← List.append_assoc]; exact .down ih hp hi
theorem Way.same {s s' : List Nd} {t n : Nat} {l : List Nat} (w : Way s t n l) (h : ∀ (q : Nat) (l : List Nat) (y : Nd), Way s t q l → s[q]? = some y → ∃ y', s'[q]? = some y' ∧ y'.ks = y.ks) : Way s' t n l := by
  induction w with
  | top => exact .top
  | @down q c i l y w hq hi ih =>
    obtain ⟨y', hy', e⟩ := h q l y w hq
    exact .down ih hy' (by rw [e]; exact hi)
theorem pw_below {lp l : List Nat} {k : Nat} {R : List Nat} (h : pw l k = enc lp ++ R) : ∃ l2, l = lp ++ l2 ∧ R = pw l2 k := by
  induction lp generalizing l with
  | nil => exact ⟨l, rfl, by simpa using h.symm⟩
  | cons a lp ih =>
    cases l with
    | nil => simp [pw] at h; omega
    | cons b l =>
      rw [pw_cons] at h
      simp only [enc, List.map_cons, List.cons_append] at h
      injection h with h1 h2
      obtain ⟨l2, e1, e2⟩ := ih h2
      exact ⟨l2, by rw [e1]; simp; omega, e2⟩
end Go.Proofs.YtabogkonklplcaaGreatDoor
