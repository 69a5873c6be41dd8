import Derived.Test.YtabogkonklplcaaGreatDoorE31
import Derived.Test.YtabogkonklplcaaGreatDoorE08
import Derived.Test.YtabogkonklplcaaGreatDoorE45
import Derived.Test.YtabogkonklplcaaGreatDoorE46
import Derived.Test.YtabogkonklplcaaGreatDoorE47

/- tree.write. -/
namespace Go.Proofs.YtabogkonklplcaaGreatDoor
open Go.RowKit
set_option linter.unusedSimpArgs false
set_option linter.unusedVariables false

theorem dig_all : ∀ n : Fin 40, (digB n.val).data.toList = Lib.decDigits n.val := by decide +kernel
theorem dig_eq (n : Nat) (h : n < 40) : (⟨(Lib.decDigits n).toArray⟩ : ByteArray) = digB n := by
  rw [← dig_all ⟨n, h⟩]
theorem text_pre (a : ByteArray) (l : List ByteArray) : ∀ b : ByteArray, l.foldl textStep (a ++ b) = a ++ l.foldl textStep b := by
  induction l with
  | nil => intro b; rfl
  | cons c l ih =>
    intro b
    rw [List.foldl_cons, List.foldl_cons, ← ih]
    congr 1
    unfold textStep
    split <;> simp only [ByteArray.append_assoc]
theorem elem_pre (f : Nat → ByteArray) (a : ByteArray) (l : List Nat) : ∀ b : ByteArray, l.foldl (elemStep f) (a ++ b) = a ++ l.foldl (elemStep f) b := by
  induction l with
  | nil => intro b; rfl
  | cons c l ih =>
    intro b
    rw [List.foldl_cons, List.foldl_cons, ← ih]
    congr 1
    unfold elemStep
    simp only [ByteArray.append_assoc]

section
variable {w : World} {F : Nat → Prop} {bf bn cap : Nat} {pn : List PN} {s : List Nd}

theorem PForAt.under {B : Nat} {w' : World} (h : PForAt w F bf bn cap pn s) (hF : ∀ b, F b → b < B) (hb : Below B w w') : PForAt w' F bf bn cap pn s :=
  h.keeps (G := fun b => B ≤ b) ⟨hb.os, hb.tape, hb.output, hb.size, fun k hk hn => hb.block k (by omega)⟩ (fun b h1 h2 => by have := hF b h1; omega)

def Wrote (B b : Nat) (t : ByteArray) (w : World) (e : Ending) (w' : World) : Prop := e = .returned (.tuple #[]) ∧ BldU B b (Lib.strCells t) w' ∧ Below B w w'

set_option maxRecDepth 20000 in
set_option maxHeartbeats 1000000 in
theorem write_text {B b : Nat} (hD : PForAt w F bf bn cap pn s) (hF : ∀ b, F b → b < B) (n : Nat) (x : Nd) (hx : s[n]? = some x) (ht : x.t = true) (hn : n < 40) (acc : ByteArray) (h : Bld B b (Lib.strCells acc) w) (hBw : B ≤ w.heap.size) (hc : ∀ c ∈ x.cs, IsCh c)
    (hlen : acc.size + (x.cs.foldl textStep (digB n ++ ⟨#[39]⟩)).size + 20 < lots) :
    Calls Tryz.prog 147 #[ptr bf, ptr b, .int .i64 n] w (Wrote B b (acc ++ (x.cs.foldl textStep (digB n ++ ⟨#[39]⟩) ++ ⟨#[39]⟩)) w) := by
  have hi : n < s.length := (List.getElem?_eq_some_iff.1 hx).1
  have h0 := hD.nodesCell
  obtain ⟨r, hr, ho, c0, c1, c2, c3⟩ := hD.look hx
  rw [ht] at c1
  have hds := digB_size n
  have C1 := hid (Tryz.strconv_Itoa_small n (by omega))
  rw [dig_eq n hn] at C1
  have C2 := hid (bwrite_string (digB n) h (by rw [Lib.strCells_length]; omega) hBw)
  rw [← strCells_append] at C2
  have e1 : x.cs.foldl textStep (acc ++ digB n ++ ⟨#[39]⟩) = acc ++ x.cs.foldl textStep (digB n ++ ⟨#[39]⟩) := by rw [ByteArray.append_assoc]; exact text_pre _ _ _
  have C3 := hid (fun (w1 : World) (h1 : BldU B b (Lib.strCells (acc ++ digB n)) w1) (hB1 : B ≤ w1.heap.size) => quoted_any x.cs (acc ++ digB n) (bld_of h1) hB1 hc (by rw [e1, ByteArray.size_append]; omega)
    (fun l r hlr => by rw [hlr, List.foldl_append]; exact text_mono r _))
  rw [e1, ByteArray.append_assoc] at C3
  have HD := hid (fun w1 (hb : Below B w w1) => (hD.under hF hb).look hx)
  have HN := hid (fun w1 (hb : Below B w w1) => (hD.under hF hb).nodesCell)
  clear hD hr ho hx c0 c2 c3 e1 h hlen hc hF
  go_enter Tryz.func147, Tryz.ntmps147
  go_wp2_with first
    | (go_at_call 175; refine (C1.out _).mono ?_; rintro e w1 ⟨rfl, rfl⟩)
    | (go_at_call 174; refine C2.out.mono ?_; rintro e w2 ⟨rfl, hu2, hb2, _⟩
       have hs2 := hb2.size
       have d0 := HN.out w2 hb2
       obtain ⟨r2, _, _, _, _, _, d3⟩ := HD.out w2 hb2
       have C4 := hid (C3.out w2 hu2 (by omega)))
    | (go_at_call 176; refine C4.out.mono ?_; rintro e w3 ⟨rfl, hu3, hb3⟩)
  go_end0
  exact ⟨rfl, hu3, hb2.trans hb3⟩
end
end Go.Proofs.YtabogkonklplcaaGreatDoor

/- tree.write of an element. -/
namespace Go.Proofs.YtabogkonklplcaaGreatDoor
open Go.RowKit
set_option linter.unusedSimpArgs false
set_option linter.unusedVariables false

section
variable {w : World} {F : Nat → Prop} {bf bn cap : Nat} {pn : List PN} {s : List Nd}

set_option maxRecDepth 20000 in
set_option maxHeartbeats 2000000 in
theorem write_elem {B b : Nat} (hD : PForAt w F bf bn cap pn s) (hF : ∀ b, F b → b < B) (n : Nat) (x : Nd) (f : Nat → ByteArray) (hx : s[n]? = some x) (ht : x.t = false) (hn : n < 40) (hks : x.ks.length < lots) (acc : ByteArray) (h : Bld B b (Lib.strCells acc) w) (hBw : B ≤ w.heap.size)
    (hlen : acc.size + (x.ks.foldl (elemStep f) (⟨#[60]⟩ ++ digB n)).size + 20 < lots)
    (ih : ∀ c ∈ x.ks, ∀ (w1 : World) (a1 : ByteArray), PForAt w1 F bf bn cap pn s → Bld B b (Lib.strCells a1) w1 → B ≤ w1.heap.size → a1.size + (f c).size + 20 < lots → Calls Tryz.prog 147 #[ptr bf, ptr b, .int .i64 c] w1 (Wrote B b (a1 ++ f c) w1)) :
    Calls Tryz.prog 147 #[ptr bf, ptr b, .int .i64 n] w (Wrote B b (acc ++ (x.ks.foldl (elemStep f) (⟨#[60]⟩ ++ digB n) ++ ⟨#[62]⟩)) w) := by
  have hi : n < s.length := (List.getElem?_eq_some_iff.1 hx).1
  have h0 := hD.nodesCell
  obtain ⟨r, hr, ho, c0, c1, c2, c3⟩ := hD.look hx
  rw [ht] at c1
  have hds := digB_size n
  unfold lots at hks
  have hm0 := elem_mono f x.ks (⟨#[60]⟩ ++ digB n)
  have e60 : (⟨#[60]⟩ : ByteArray).size = 1 := rfl
  rw [ByteArray.size_append] at hm0
  have C0 := hid (bwrite_byte 60 h (by rw [Lib.strCells_length]; omega) hBw)
  rw [show Lib.strCells acc ++ [Value.int .u8 60] = Lib.strCells (acc ++ ⟨#[60]⟩) from by rw [strCells_append]; rfl] at C0
  have C1 := hid (Tryz.strconv_Itoa_small n (by omega))
  rw [dig_eq n hn] at C1
  have C2 := hid (fun (w1 : World) (h1 : BldU B b (Lib.strCells (acc ++ ⟨#[60]⟩)) w1) (hB1 : B ≤ w1.heap.size) => bwrite_string (digB n) (bld_of h1) (by rw [Lib.strCells_length, ByteArray.size_append]; omega) hB1)
  rw [← strCells_append, ByteArray.append_assoc] at C2
  obtain ⟨a2, d2, hv2⟩ := slice_shape ho.kids
  have HROW := hid (fun w1 (hb : Below B w w1) => (((hD.under hF hb).ok n r x hr hx).kids))
  have HC2 := hid (fun w1 (hb : Below B w w1) => (hD.under hF hb).cellAt hr 2 (by omega))
  have HN := hid (fun w1 (hb : Below B w w1) => (hD.under hF hb).nodesCell)
  have HF := hid (fun w1 (hb : Below B w w1) => hD.under hF hb)
  have HL := hid hlen
  have IH := hid ih
  have hkv : r.cells[2]? = some (.slice a2 x.ks.length d2) := by rw [← hv2]; rfl
  rw [hkv] at HC2
  rw [hv2] at HROW
  clear hD hr ho hx c0 c2 c3 h hlen hF ih hkv hv2 hm0
  have CE := hid (fun (w1 : World) (t1 : ByteArray) (h1 : BldU B b (Lib.strCells t1) w1) (ht1 : t1.size < lots) (hB1 : B ≤ w1.heap.size) => bwrite_byte 62 (bld_of h1) (by rw [Lib.strCells_length]; exact ht1) hB1)
  have fin : ∀ t1 : ByteArray, Lib.strCells t1 ++ [Value.int .u8 62] = Lib.strCells (t1 ++ ⟨#[62]⟩) := fun t1 => by rw [strCells_append]; rfl
  have FIN := hid fin
  clear fin
  go_enter Tryz.func147, Tryz.ntmps147
  go_wp2_with first
    | (go_at_call 177; refine C0.out.mono ?_; rintro e w1 ⟨rfl, hu1, hb1, _⟩
       have hs1 := hb1.size
       have C3 := hid (C2.out w1 hu1 (by omega)))
    | (go_at_call 175; refine (C1.out _).mono ?_; rintro e w9 ⟨rfl, rfl⟩)
    | (go_at_call 174; refine C3.out.mono ?_; rintro e w2 ⟨rfl, hu2, hb2, _⟩
       have hs2 := hb2.size
       have hb02 := hb1.trans hb2
       have d0 := HN.out w2 hb02
       have d2' := HC2.out w2 hb02)
  go_loopw [45] (fun a wr => ∃ j : Nat, j ≤ x.ks.length ∧ a = .int .i64 j ∧ BldU B b (Lib.strCells (acc ++ (x.ks.take j).foldl (elemStep f) (⟨#[60]⟩ ++ digB n))) wr ∧ Below B w wr) (fun a _ => x.ks.length - (intOf a).toNat)
  case atStart => exact ⟨0, Nat.zero_le _, rfl, hu2, hb02⟩
  case round =>
    obtain ⟨j, hj, rfl, hur, hbr⟩ := hrel
    have hsr := hbr.size
    have hLL := HL.out
    have hmono : ((x.ks.take j).foldl (elemStep f) (⟨#[60]⟩ ++ digB n)).size ≤ (x.ks.foldl (elemStep f) (⟨#[60]⟩ ++ digB n)).size := by
      have := elem_mono f (x.ks.drop j) ((x.ks.take j).foldl (elemStep f) (⟨#[60]⟩ ++ digB n))
      rw [← List.foldl_append, List.take_append_drop] at this
      exact this
    by_cases hjl : j < x.ks.length
    · obtain ⟨u, hu⟩ : ∃ u, x.ks[j]? = some u := ⟨_, List.getElem?_eq_getElem hjl⟩
      have hum : u ∈ x.ks := List.mem_of_getElem? hu
      have htake : x.ks.take (j + 1) = x.ks.take j ++ [u] := by rw [List.take_add_one, hu]; rfl
      have hstep : (x.ks.take (j + 1)).foldl (elemStep f) (⟨#[60]⟩ ++ digB n) = (x.ks.take j).foldl (elemStep f) (⟨#[60]⟩ ++ digB n) ++ ⟨#[32]⟩ ++ f u := by rw [htake, List.foldl_append]; rfl
      have hmono2 : ((x.ks.take (j + 1)).foldl (elemStep f) (⟨#[60]⟩ ++ digB n)).size ≤ (x.ks.foldl (elemStep f) (⟨#[60]⟩ ++ digB n)).size := by
        have := elem_mono f (x.ks.drop (j + 1)) ((x.ks.take (j + 1)).foldl (elemStep f) (⟨#[60]⟩ ++ digB n))
        rw [← List.foldl_append, List.take_append_drop] at this
        exact this
      rw [hstep] at hmono2
      rcases row_cases (HROW.out wr hbr) with ⟨_, hl0⟩ | ⟨g, cc, hv⟩
      · omega
      · cases hv
        have cel : wr.cell? ⟨g, j, none⟩ = some (.int .i64 (u : Int)) := by
          rw [(HROW.out wr hbr).cellAt j (by omega)]
          simp [intsV, hu]
        generalize (x.ks.take j).foldl (elemStep f) (⟨#[60]⟩ ++ digB n) = T at hur hmono hmono2 hstep
        rw [ByteArray.size_append, ByteArray.size_append] at hmono2
        have e32 : (⟨#[32]⟩ : ByteArray).size = 1 := rfl
        have C32 := hid (bwrite_byte 32 (bld_of hur) (by rw [Lib.strCells_length, ByteArray.size_append]; omega) (by omega))
        rw [show Lib.strCells (acc ++ T) ++ [Value.int .u8 32] = Lib.strCells (acc ++ T ++ ⟨#[32]⟩) from by rw [strCells_append (acc ++ T)]; rfl] at C32
        have CI := hid (fun (wx : World) (hx : BldU B b (Lib.strCells (acc ++ T ++ ⟨#[32]⟩)) wx) (hbx : Below B w wx) => IH.out u hum wx (acc ++ T ++ ⟨#[32]⟩) (HF.out wx hbx) (bld_of hx) (by have := hbx.size; omega) (by rw [ByteArray.size_append, ByteArray.size_append]; omega))
        have STEP := hid hstep
        have hjI : ((j : Int) < x.ks.length) := by omega
        clear hstep htake hmono hmono2 hLL hur hu hum
        go_wp2_with first
          | (go_at_call 177; refine C32.out.mono ?_; rintro e w5 ⟨rfl, hu5, hb5, _⟩
             have hb05 := hbr.trans hb5
             have CJ := hid (CI.out w5 hu5 hb05))
          | (go_at_call 147; refine CJ.out.mono ?_; rintro e w6 ⟨rfl, hu6, hb6⟩)
        go_roundw
        case rel =>
          refine ⟨j + 1, by omega, by go_num, ?_, hb05.trans hb6⟩
          rw [STEP.out, ← ByteArray.append_assoc, ← ByteArray.append_assoc]
          exact hu6
        case measure => simp [intOf]; omega
    · have hjn : ¬ (j : Int) < x.ks.length := by omega
      obtain rfl : j = x.ks.length := by omega
      rw [List.take_of_length_le (Nat.le_refl _)] at hur
      have CZ := hid (CE.out wr _ hur (by rw [ByteArray.size_append]; omega) (by omega))
      clear hmono hLL hur
      go_wp2_with (go_at_call 177; refine CZ.out.mono ?_; rintro e w3 ⟨rfl, hu3, hb3, _⟩)
      go_end0
      refine ⟨rfl, ?_, hbr.trans hb3⟩
      rw [FIN.out, ByteArray.append_assoc] at hu3
      exact hu3
end
end Go.Proofs.YtabogkonklplcaaGreatDoor

/- tree.Show; the document's answers at Show. -/
namespace Go.Proofs.YtabogkonklplcaaGreatDoor
open Go.RowKit
set_option linter.unusedSimpArgs false
set_option linter.unusedVariables false

section
variable {F : Nat → Prop} {bf bn cap : Nat} {pn : List PN} {s : List Nd}

theorem write_any {B b : Nat} (wf : WF s) {h : Nat → Nat} {H : Nat} (u : Up s h H) (hF : ∀ b, F b → b < B) : ∀ (k n : Nat), n < s.length → h n < k → ∀ (w : World) (acc : ByteArray), PForAt w F bf bn cap pn s → Bld B b (Lib.strCells acc) w → B ≤ w.heap.size → acc.size + (shownF s k n).size + 20 < lots →
    Calls Tryz.prog 147 #[ptr bf, ptr b, .int .i64 n] w (Wrote B b (acc ++ shownF s k n) w) := by
  intro k
  induction k with
  | zero => intro n _ hk; omega
  | succ k ih =>
    intro n hn hk w acc hD hb hBw hlen
    have hx : s[n]? = some s[n] := List.getElem?_eq_getElem hn
    generalize s[n] = x at hx
    have h40 := wf.cap
    have hch := wf.chars n x hx
    have hkl : x.ks.length ≤ 40 := nodup_length 40 _ (wf.nodup n x hx) (fun c hc => by have := (wf.kid_lt u hx hc).1; omega)
    simp only [shownF, hx] at hlen ⊢
    cases ht : x.t with
    | true =>
      rw [ht, if_pos rfl, ByteArray.size_append] at hlen
      rw [if_pos rfl]
      exact write_text hD hF n x hx ht (by omega) acc hb hBw hch.2 (by omega)
    | false =>
      rw [ht, if_neg (by decide), ByteArray.size_append] at hlen
      rw [if_neg (by decide)]
      refine write_elem hD hF n x (shownF s k) hx ht (by omega) (by unfold lots; omega) acc hb hBw (by omega) (fun c hc w1 a1 h1 h2 h3 h4 => ?_)
      have := wf.kid_lt u hx hc
      exact ih c this.1 (by omega) w1 a1 h1 h2 h3 h4

variable {w : World}

set_option maxHeartbeats 400000 in
theorem tshow_no (hD : PFor w F bf s) (n : Int) (h : isB s n = false) : Calls Tryz.prog 95 #[ptr bf, .int .i64 n] w (TPost F w bf s (.tuple #[.string ⟨#[]⟩, refusalV n 1])) := by
  have HD := hid hD
  obtain ⟨bn, cap, pn, hD⟩ := hD
  have C := hid (find_no hD n h)
  clear hD h
  go_enter Tryz.func95, Tryz.ntmps95
  go_wp2_with (go_at_call 87; refine C.out.mono ?_; rintro e w1 ⟨rfl, rfl⟩)
  go_ret2
  exact ⟨rfl, Keeps.refl _ _, HD.out.wider (fun b h => .inl h)⟩

set_option maxHeartbeats 1000000 in
theorem tshow_yes (wf : WF s) (hD : PFor w F bf s) (n : Nat) (hn : n < s.length) (t : ByteArray) (ht : Lim (fun k => shownF s k n) t) : Calls Tryz.prog 95 #[ptr bf, .int .i64 n] w (TPost F w bf s (.tuple #[.string t, .nilIface])) := by
  have HD := hid hD
  obtain ⟨h, H, u⟩ := wf.up
  obtain ⟨bn, cap, pn, hD⟩ := hD.narrow
  have C := hid (find_yes hD n (isB_of (by omega)))
  have hal := all_length wf (h n + 1) n hn
  have hsz := shown_size wf u (h n + 1) n hn (by omega)
  have e := (shown_lim wf u (k := h n + 1) (n := n) (by omega)).unique ht
  have hb0 : Bld w.heap.size w.heap.size (Lib.strCells ⟨#[]⟩) (w.alloc (.cells #[.pointer none, .slice none 0 0] 219)) :=
    .inl ⟨Nat.le_refl _, .slice none 0 0, heap_alloc_new w _, World.ownsRow_nil _ _ _ _, fun e => by cases e⟩
  have hbl : Below w.heap.size w (w.alloc (.cells #[.pointer none, .slice none 0 0] 219)) := (Below.refl _ w).alloc (Nat.le_refl _) _
  have CW := hid (write_any (B := w.heap.size) wf u (fun b hb => hb.2) (h n + 1) n hn (by omega) _ ⟨#[]⟩ (hD.under (fun b hb => hb.2) hbl) hb0 (by simp) (by unfold lots; have : (⟨#[]⟩ : ByteArray).size = 0 := rfl; omega))
  rw [e, show (⟨#[]⟩ : ByteArray) ++ t = t from by show ByteArray.empty ++ t = t; simp] at CW
  have HB := hid hbl
  clear hD hal hsz e hb0 hbl ht
  go_enter Tryz.func95, Tryz.ntmps95
  go_wp2_with first
    | (go_at_call 87; refine C.out.mono ?_; rintro e w1 ⟨rfl, rfl⟩)
    | (go_at_call 147; refine CW.out.mono ?_; rintro e w2 ⟨rfl, hu2, hb2⟩
       have hs2 := hb2.size
       have CS := hid (Tryz.Builder_String_any _ _ t.data.toList w2 (bld_of hu2) (by have := HB.out.size; omega)))
    | (go_at_call 148; refine CS.out.mono ?_; rintro e w3 ⟨rfl, hb3⟩)
  go_ret2
  have hb4 := HB.out.trans (hb2.trans hb3)
  exact ⟨rfl, Keeps.of_below hb4, (HD.out.below hb4).wider (fun b h => .inl h)⟩
end

theorem ans_show (s : List Nd) (wf : WF s) (A : Int) : ∃ b : ByteArray, Ans PDoc GG ⟨s, []⟩ 55 77 [.int .i64 A] (fun v => .tuple #[.string b, v]) (fun v => .tuple #[.string b, v]) := by
  cases hA : isB s A with
  | false =>
    refine ⟨⟨#[]⟩, A, 1, ⟨s, []⟩, ⟨wf, rfl⟩, ?_, ?_⟩
    · intro w F bx hg hP
      exact mshow_of hg hP A (errOf_P A 1 (by decide)) (fun F' bf h => tshow_no h A hA)
    · intro w F bd hR
      have hR' := hR
      obtain ⟨bn, cap, rn, rv, hD⟩ := hR
      exact (rshow_no hD A hA).mono fun e w' ⟨h1, h2⟩ => ⟨h1, Keeps.of_below h2, hR'.after h2⟩
  | true =>
    obtain ⟨h1, h2⟩ := isB_true hA
    obtain ⟨i, rfl⟩ : ∃ i : Nat, A = (i : Int) := ⟨A.toNat, by omega⟩
    have hi : i < s.length := by omega
    obtain ⟨h, H, u⟩ := wf.up
    have hl := shown_lim wf u (k := h i + 1) (n := i) (by omega)
    refine ⟨shownF s (h i + 1) i, 0, 0, ⟨s, []⟩, ⟨wf, rfl⟩, ?_, ?_⟩
    · intro w F bx hg hP
      exact mshow_of hg hP i (errOf_nil 0) (fun F' bf h => tshow_yes wf h i hi _ hl)
    · intro w F bd hR
      have hR' := hR
      obtain ⟨bn, cap, rn, rv, hD⟩ := hR
      exact (rshow_yes wf hD i hi _ hl).mono fun e w' ⟨h1, h2⟩ => ⟨h1, Keeps.of_below h2, hR'.after h2⟩

end Go.Proofs.YtabogkonklplcaaGreatDoor

/- With ranges: Element, Text, Show. -/
namespace Go.Proofs.YtabogkonklplcaaGreatDoor
open Go.RowKit Go.Lib
set_option linter.unusedSimpArgs false
set_option linter.unusedVariables false

theorem vans_element {V : List Nd → Sp → Prop} (hV : Lives V) (s : List Nd) (wf : WF s) (rs : List Sp) (h6 : rs.length ≤ 6) (hrs : ∀ z ∈ rs, V s z) : ∃ n : Int, Ans (PDocV V) GG ⟨s, rs⟩ 52 73 [] (fun v => .tuple #[.int .i64 n, v]) (fun v => .tuple #[.int .i64 n, v]) := by
  by_cases h40 : s.length < 40
  · refine ⟨s.length, 0, 0, ⟨s ++ [rootNd], rs⟩, ⟨wf_push wf h40 rootNd rfl rfl (fun _ => rfl) ⟨by decide, fun c hc => by cases hc⟩, h6, fun z hz => hV.push rootNd wf rfl (hrs z hz)⟩, ?_, ?_⟩
    · intro w F bx hg hP
      exact melement_of hg hP (errOf_nil 0) (fun F' bf h => telement_some h h40)
    · rintro w F bd ⟨bn, cap, rn, rv, hD⟩
      exact (relement_some hD h40).mono fun e w' h => h
  · refine ⟨0, 0, 7, ⟨s, rs⟩, ⟨wf, h6, hrs⟩, ?_, ?_⟩
    · intro w F bx hg hP
      exact melement_of hg hP (errOf_P 0 7 (by decide)) (fun F' bf h => telement_full h (by omega))
    · intro w F bd hR
      have hR' := hR
      obtain ⟨bn, cap, rn, rv, hD⟩ := hR
      exact (relement_full (s := s) hD (by omega)).mono fun e w' ⟨h1, h2⟩ => ⟨h1, Keeps.of_below h2, hR'.afterR h2⟩


theorem vans_text {V : List Nd → Sp → Prop} (hV : Lives V) (s : List Nd) (wf : WF s) (rs : List Sp) (h6 : rs.length ≤ 6) (hrs : ∀ z ∈ rs, V s z) (t : ByteArray) (ht : t.size < lots) : ∃ n : Int, Ans (PDocV V) GG ⟨s, rs⟩ 53 74 [.string t] (fun v => .tuple #[.int .i64 n, v]) (fun v => .tuple #[.int .i64 n, v]) := by
  by_cases hk : ∃ l, Takes t l
  · obtain ⟨l, hl⟩ := hk
    by_cases h40 : s.length < 40
    · refine ⟨s.length, 0, 0, ⟨s ++ [⟨true, l, [], -1⟩], rs⟩, ⟨wf_push wf h40 _ rfl rfl (fun h => by cases h) ⟨hl.2, charsOf_isCh t.size t l (Nat.le_refl _) hl.1⟩, h6, fun z hz => hV.push _ wf rfl (hrs z hz)⟩, ?_, ?_⟩
      · intro w F bx hg hP
        exact mtext_of hg hP t (errOf_nil 0) (fun F' bf h => ttext_some h hg.2 t ht l hl h40)
      · rintro w F bd ⟨bn, cap, rn, rv, hD⟩
        exact (rtext_some hD t ht l hl.1 hl.2 h40).mono fun e w' h => h
    · refine ⟨0, 0, 7, ⟨s, rs⟩, ⟨wf, h6, hrs⟩, ?_, ?_⟩
      · intro w F bx hg hP
        exact mtext_of hg hP t (errOf_P 0 7 (by decide)) (fun F' bf h => ttext_full h hg.2 t ht l hl (by omega))
      · intro w F bd hR
        have hR' := hR
        obtain ⟨bn, cap, rn, rv, hD⟩ := hR
        exact (rtext_full (s := s) hD t ht l hl.1 hl.2 (by omega)).mono fun e w' ⟨h1, h2⟩ => ⟨h1, Keeps.of_below h2, hR'.afterR h2⟩
  · refine ⟨0, 0, 6, ⟨s, rs⟩, ⟨wf, h6, hrs⟩, ?_, ?_⟩
    · intro w F bx hg hP
      exact mtext_flaw hg hP t (fun F' bf h => ttext_no h hg.2 t ht (fun l hl => hk ⟨l, hl⟩))
    · intro w F bd hR
      have hR' := hR
      obtain ⟨bn, cap, rn, rv, hD⟩ := hR
      cases hc : charsOf t with
      | none => exact (rtext_no hD t ht hc).mono fun e w' ⟨h1, h2⟩ => ⟨h1, Keeps.of_below h2, hR'.afterR h2⟩
      | some l =>
        have h30 : 30 < l.length := by
          rcases Nat.lt_or_ge 30 l.length with h | h
          · exact h
          · exact absurd ⟨l, hc, h⟩ hk
        exact (rtext_long hD t ht l hc h30).mono fun e w' ⟨h1, h2⟩ => ⟨h1, Keeps.of_below h2, hR'.afterR h2⟩


theorem vans_show {V : List Nd → Sp → Prop} (hV : Lives V) (s : List Nd) (wf : WF s) (rs : List Sp) (h6 : rs.length ≤ 6) (hrs : ∀ z ∈ rs, V s z) (A : Int) : ∃ b : ByteArray, Ans (PDocV V) GG ⟨s, rs⟩ 55 77 [.int .i64 A] (fun v => .tuple #[.string b, v]) (fun v => .tuple #[.string b, v]) := by
  cases hA : isB s A with
  | false =>
    refine ⟨⟨#[]⟩, A, 1, ⟨s, rs⟩, ⟨wf, h6, hrs⟩, ?_, ?_⟩
    · intro w F bx hg hP
      exact mshow_of hg hP A (errOf_P A 1 (by decide)) (fun F' bf h => tshow_no h A hA)
    · intro w F bd hR
      have hR' := hR
      obtain ⟨bn, cap, rn, rv, hD⟩ := hR
      exact (rshow_no hD A hA).mono fun e w' ⟨h1, h2⟩ => ⟨h1, Keeps.of_below h2, hR'.afterR h2⟩
  | true =>
    obtain ⟨h1, h2⟩ := isB_true hA
    obtain ⟨i, rfl⟩ : ∃ i : Nat, A = (i : Int) := ⟨A.toNat, by omega⟩
    have hi : i < s.length := by omega
    obtain ⟨h, H, u⟩ := wf.up
    have hl := shown_lim wf u (k := h i + 1) (n := i) (by omega)
    refine ⟨shownF s (h i + 1) i, 0, 0, ⟨s, rs⟩, ⟨wf, h6, hrs⟩, ?_, ?_⟩
    · intro w F bx hg hP
      exact mshow_of hg hP i (errOf_nil 0) (fun F' bf h => tshow_yes wf h i hi _ hl)
    · intro w F bd hR
      have hR' := hR
      obtain ⟨bn, cap, rn, rv, hD⟩ := hR
      exact (rshow_yes wf hD i hi _ hl).mono fun e w' ⟨h1, h2⟩ => ⟨h1, Keeps.of_below h2, hR'.afterR h2⟩


end Go.Proofs.YtabogkonklplcaaGreatDoor

/- With ranges: Insert. -/
namespace Go.Proofs.YtabogkonklplcaaGreatDoor
open Go.RowKit Go.Lib
set_option linter.unusedSimpArgs false
set_option linter.unusedVariables false

theorem vans_insert {V : List Nd → Sp → Prop} (hV : Lives V) (s : List Nd) (wf : WF s) (rs : List Sp) (h6 : rs.length ≤ 6) (hrs : ∀ z ∈ rs, V s z) (A B C : Int) : Ans (PDocV V) GG ⟨s, rs⟩ 54 75 [.int .i64 A, .int .i64 B, .int .i64 C] (fun v => v) (fun v => v) := by
  have hcap := wf.cap
  have no : ∀ (n y : Int), y ≠ 0 → (∀ (w : World) (F : Nat → Prop) (bf bn cap : Nat) (pn : List PN), PForAt w F bf bn cap pn s → Calls Tryz.prog 146 #[ptr bf, .int .i64 A, .int .i64 B, .int .i64 C] w fun e w' => e = .returned (refusalV n y) ∧ Below w.heap.size w w') →
      (∀ (w : World) (F : Nat → Prop) (bd bn cap : Nat) (rn : List RN) (rv : Value), RDocAt w F bd bn cap rn rv s rs → Calls Tryz.prog 75 #[ptr bd, .int .i64 A, .int .i64 B, .int .i64 C] w fun e w' => e = .returned (.agg #[.int .i64 n, .int .i64 y]) ∧ Below w.heap.size w w') →
      Ans (PDocV V) GG ⟨s, rs⟩ 54 75 [.int .i64 A, .int .i64 B, .int .i64 C] (fun v => v) (fun v => v) := by
    intro n y hy hT hR
    refine ⟨n, y, ⟨s, rs⟩, ⟨wf, h6, hrs⟩, ?_, ?_⟩
    · intro w F bx hg hP
      refine minsert_no hg hP A B C (errOf_P n y hy) (fun F' bf h => tinsert_no h A B C n y ?_)
      obtain ⟨bn, cap, pn, h⟩ := h
      exact hT w F' bf bn cap pn h
    · intro w F bd hD
      have hD' := hD
      obtain ⟨bn, cap, rn, rv, hD⟩ := hD
      exact (hR w F bd bn cap rn rv hD).mono fun e w' ⟨h1, h2⟩ => ⟨h1, Keeps.of_below h2, hD'.afterR h2⟩
  cases hA : isB s A with
  | false => exact no A 1 (by decide) (fun w F bf bn cap pn h => may_parent h A B C hA) (fun w F bd bn cap rn rv h => rinsert_parent h A B C hA)
  | true =>
    cases hB : isB s B with
    | false => exact no B 1 (by decide) (fun w F bf bn cap pn h => may_node h A B C hA hB) (fun w F bd bn cap rn rv h => rinsert_node h A B C hA hB)
    | true =>
      obtain ⟨a1, a2⟩ := isB_true hA
      obtain ⟨b1, b2⟩ := isB_true hB
      obtain ⟨i, rfl⟩ : ∃ i : Nat, A = (i : Int) := ⟨A.toNat, by omega⟩
      obtain ⟨j, rfl⟩ : ∃ j : Nat, B = (j : Int) := ⟨B.toNat, by omega⟩
      have hi : i < s.length := by omega
      have hj : j < s.length := by omega
      obtain ⟨x, hx⟩ : ∃ x, s[i]? = some x := ⟨_, List.getElem?_eq_getElem hi⟩
      obtain ⟨y, hy⟩ : ∃ y, s[j]? = some y := ⟨_, List.getElem?_eq_getElem hj⟩
      cases ht : x.t with
      | true => exact no i 2 (by decide) (fun w F bf bn cap pn h => may_kind h i j C x hx hj ht) (fun w F bd bn cap rn rv h => rinsert_kind h i j C x hx hj ht)
      | false =>
        by_cases hj0 : j = 0
        · subst hj0
          exact no _ 4 (by decide) (fun w F bf bn cap pn h => may_root h i C x hx ht) (fun w F bd bn cap rn rv h => rinsert_has h i 0 C x y hx hy ht (.inl rfl))
        · by_cases hp : 0 ≤ y.p
          · exact no j 4 (by decide) (fun w F bf bn cap pn h => may_has h i j C x y hx hy ht (by omega) hp) (fun w F bd bn cap rn rv h => rinsert_has h i j C x y hx hy ht (.inr hp))
          · have hI : InsOk s i j x y := ⟨hx, hy, ht, by omega, by omega⟩
            obtain ⟨ht0, Bd, u⟩ := wf.up
            by_cases hm : i ∈ allF s (ht0 j + 1) j
            · exact no j 5 (by decide) (fun w F bf bn cap pn h => may_cycle wf u h i j (ht0 j + 1) C x y hI (by omega) hm) (fun w F bd bn cap rn rv h => rinsert_cycle h u i j C x y hI (holds_yes wf hi hm))
            · have hw := holds_no wf u hi (Nat.lt_succ_self _) hm
              by_cases hC : C < 0 ∨ (x.ks.length : Int) < C
              · exact no i 3 (by decide) (fun w F bf bn cap pn h => may_index wf u h i j (ht0 j + 1) C x y hI (by omega) hm hC) (fun w F bd bn cap rn rv h => rinsert_index h u i j C x y hI hw hC)
              · obtain ⟨c, rfl⟩ : ∃ c : Nat, C = (c : Int) := ⟨C.toNat, by omega⟩
                have hc : c ≤ x.ks.length := by omega
                obtain ⟨hij, hwf⟩ := wf_insert wf hI hw hc
                have hkl : x.ks.length ≤ 40 := Nat.le_trans (nodup_length s.length _ (wf.nodup i x hx) (fun q hq => (wf.kid_lt u hx hq).1)) wf.cap
                refine ⟨0, 0, ⟨_, rs.map (mvSp (shiftF i c 1))⟩, ⟨hwf, by simpa using h6, mapV hrs (fun z hz => hV.insert wf hI hw hc hij hz)⟩, ?_, ?_⟩
                · intro w F bx hg hP
                  exact minsert_go hg hP (Small.of wf (fun z hz => hV.place (hrs z hz))) h6 i j c (fun F' bf h => tinsert_done wf u h i j (ht0 j + 1) c x y hI (by omega) hm hc hij (by unfold lots; omega) (by unfold lots; omega))
                · rintro w F bd ⟨bn, cap, rn, rv, hD⟩
                  exact (rinsert_any hD u i j c x y hI hw hc (by unfold lots; omega) hij (Small.of wf (fun z hz => hV.place (hrs z hz))) h6).mono fun e w' h => h


end Go.Proofs.YtabogkonklplcaaGreatDoor

/- With ranges: Remove. -/
namespace Go.Proofs.YtabogkonklplcaaGreatDoor
open Go.RowKit Go.Lib
set_option linter.unusedSimpArgs false
set_option linter.unusedVariables false

theorem vans_remove {V : List Nd → Sp → Prop} (hV : Lives V) (s : List Nd) (wf : WF s) (rs : List Sp) (h6 : rs.length ≤ 6) (hrs : ∀ z ∈ rs, V s z) (A : Int) : Ans (PDocV V) GG ⟨s, rs⟩ 60 76 [.int .i64 A] (fun v => v) (fun v => v) := by
  have hcap := wf.cap
  cases hA : isB s A with
  | false =>
    refine ⟨A, 1, ⟨s, rs⟩, ⟨wf, h6, hrs⟩, ?_, ?_⟩
    · intro w F bx hg hP
      exact mremove_no hg hP A (errOf_P A 1 (by decide)) (fun F' bf h => tremove_node h A hA)
    · intro w F bd hR
      have hR' := hR
      obtain ⟨bn, cap, rn, rv, hD⟩ := hR
      exact (rremove_node hD A hA).mono fun e w' ⟨h1, h2⟩ => ⟨h1, Keeps.of_below h2, hR'.afterR h2⟩
  | true =>
    obtain ⟨h1, h2⟩ := isB_true hA
    obtain ⟨i, rfl⟩ : ∃ i : Nat, A = (i : Int) := ⟨A.toNat, by omega⟩
    have hi : i < s.length := by omega
    obtain ⟨x, hx⟩ : ∃ x, s[i]? = some x := ⟨_, List.getElem?_eq_getElem hi⟩
    by_cases hp : 0 ≤ x.p
    · obtain ⟨j, m, y, hj, hy, hm, hno, hyl⟩ := wf.place hx hp
      obtain ⟨hij, hwf⟩ := wf_remove wf hx hj hy hm
      obtain ⟨hh2, HH2, u2⟩ := hwf.up
      obtain ⟨hh, HH, u⟩ := wf.up
      have hall := gone_iff wf u hx hj hy hm hij hwf u2
      have hlim := gone_lim wf u hx hj hy hm hij hwf u2
      refine ⟨0, 0, ⟨_, rs.map (mvSp (gatherF (allF ((s.set j { y with ks := y.ks.take m ++ y.ks.drop (m + 1) }).set i { x with p := -1 }) (hh2 i + 1) i) j m (shiftF j m (-1))))⟩, ⟨hwf, by simpa using h6, mapV hrs (fun z hz => hV.remove _ wf hx hj hy hm hno hij hall hz)⟩, ?_, ?_⟩
      · intro w F bx hg hP
        exact mremove_go hg hP (Small.of wf (fun z hz => hV.place (hrs z hz))) h6 i (fun F' bf h => tremove_done h i j m x y hx hj hy hm hno hij (by unfold lots; omega) (by unfold lots; omega) hwf u2)
      · rintro w F bd ⟨bn, cap, rn, rv, hD⟩
        exact (rremove_any hD u i j m x y hx hj hy hm hno (by unfold lots; omega) hij _ hlim wf (fun z hz => hV.place (hrs z hz)) h6).mono fun e w' h => h
    · have hp1 : x.p = -1 := by
        rcases wf.par i x hx with h | ⟨j, y, h, _⟩
        · exact h
        · omega
      refine ⟨i, 4, ⟨s, rs⟩, ⟨wf, h6, hrs⟩, ?_, ?_⟩
      · intro w F bx hg hP
        exact mremove_no hg hP i (errOf_P i 4 (by decide)) (fun F' bf h => tremove_none h i x hx hp1 (by unfold lots; omega))
      · intro w F bd hR
        have hR' := hR
        obtain ⟨bn, cap, rn, rv, hD⟩ := hR
        exact (rremove_none hD i x hx (by omega)).mono fun e w' ⟨h1, h2⟩ => ⟨h1, Keeps.of_below h2, hR'.afterR h2⟩


end Go.Proofs.YtabogkonklplcaaGreatDoor

/- The document's answers at Compare. -/
namespace Go.Proofs.YtabogkonklplcaaGreatDoor
open Go.RowKit Go.Lib
set_option linter.unusedSimpArgs false
set_option linter.unusedVariables false

set_option maxRecDepth 20000 in
set_option maxHeartbeats 1000000 in
theorem mcompare_of {w : World} {F : Nat → Prop} {bx : Nat} {st : St} (hg : GG w) (hP : PLies w F bx st) {r : Int} {v : Value} (hv : v = .nilIface ∨ ∃ u, v = .iface 145 u) (p0 p1 q0 q1 : Int) {a y : Int} (hE : ErrOf v a y)
    (hT : ∀ (W : World) (F' : Nat → Prop) (bf : Nat), PFor W F' bf st.n → Calls Tryz.prog 62 #[ptr bf, .agg #[.int .i64 p0, .int .i64 p1], .agg #[.int .i64 q0, .int .i64 q1]] W fun e w' => e = .returned (.tuple #[.int .i64 r, v]) ∧ Below W.heap.size W w') :
    Calls Tryz.prog 26 #[ptr bx, .agg #[.int .i64 p0, .int .i64 p1], .agg #[.int .i64 q0, .int .i64 q1]] w (PLPost F w bx st (.tuple #[.int .i64 r, errV a y])) := by
  have hP' := hP
  obtain ⟨bf, bl, sv, hD⟩ := hP
  have C := hid (fun W (hb : Below w.heap.size w W) => hT W _ _ (hD.nodes.below hb))
  have hlx := heap_lt hD.doc
  have c0 : w.cell? ⟨bx, 0, none⟩ = some (ptr bf) := cell_of_heap hD.doc 0
  have E := hid (fun w1 (hb : Below w.heap.size w w1) => hE w1 (hg.below hb).1)
  have HP := hid hP'
  have HT := hid (ptwo_below w p0 p1 q0 q1)
  clear hD hT hg hE hP'
  rcases hv with rfl | ⟨u, rfl⟩
  all_goals
    go_enter Tryz.func26, Tryz.ntmps26
    go_wp2
    go_region_held3 (fun w' => w'.cell? ⟨bx, 0, none⟩ = some (ptr bf) ∧ w'.cell? ⟨w.heap.size, 0, none⟩ = some (.int .i64 p0) ∧ w'.cell? ⟨w.heap.size, 1, none⟩ = some (.int .i64 p1) ∧ w'.cell? ⟨w.heap.size + 1, 0, none⟩ = some (.int .i64 q0) ∧ w'.cell? ⟨w.heap.size + 1, 1, none⟩ = some (.int .i64 q1)) (first | exact KEEP1.out | go_keep) ((
       go_at_call 62
       refine (C.out _ (by first | exact HT.out | exact HT.out.drew | exact below_drewN HT.out _)).mono ?_
       rintro e w1 ⟨rfl, hb⟩
       have hb' : Below (ptwo w p0 p1 q0 q1).heap.size (ptwo w p0 p1 q0 q1) w1 := ⟨hb.os, hb.tape, hb.output, hb.size, hb.block⟩
       obtain ⟨k1, k2⟩ := ptwo_cells hb'
       have HB1 := hid (HT.out.trans (hb'.mono HT.out.size))
       have KEEP1 : Hid (w1.cell? ⟨bx, 0, none⟩ = some (ptr bf) ∧ w1.cell? ⟨w.heap.size, 0, none⟩ = some (.int .i64 p0) ∧ w1.cell? ⟨w.heap.size, 1, none⟩ = some (.int .i64 p1) ∧ w1.cell? ⟨w.heap.size + 1, 0, none⟩ = some (.int .i64 q0) ∧ w1.cell? ⟨w.heap.size + 1, 1, none⟩ = some (.int .i64 q1)) :=
         ⟨(HB1.out.cell (p := ⟨bx, 0, none⟩) hlx).trans c0, cell_of_heap k1 0, cell_of_heap k1 1, cell_of_heap k2 0, cell_of_heap k2 1⟩
       have E1 := hid (E.out w1 HB1.out)
       clear hb hb' k1 k2))
    go_wp2_with (go_at_call 46; refine E1.out.mono ?_; rintro e w2 ⟨rfl, hb2⟩)
    go_ret2
    have hb := HB1.out.trans (hb2.mono HB1.out.size)
    exact ⟨rfl, Keeps.of_below hb, (HP.out.keeps (Keeps.of_below (F := fun _ => False) hb) (fun _ _ e => e)).wider (fun b h => .inl h)⟩

/-- What stands against a place, of the program. -/
theorem place_bad {s : List Nd} (wf : WF s) (n k a y : Int) (hf : placeFault s n k = (a, y)) (hy : y ≠ 0) :
    ∃ u, ErrOf (.iface 145 u) a y ∧ ∀ (W : World) (F : Nat → Prop) (bf bn cap : Nat) (pn : List PN), PForAt W F bf bn cap pn s → Calls Tryz.prog 98 #[ptr bf, .agg #[.int .i64 n, .int .i64 k]] W fun e w' => e = .returned (.iface 145 u) ∧ Below W.heap.size W w' := by
  cases hb : isB s n with
  | false =>
    have e : placeFault s n k = (n, 1) := by simp [placeFault, hb]
    rw [e] at hf
    cases hf
    exact ⟨_, errOf_P n 1 (by decide), fun W F bf bn cap pn h => place_no h n k hb⟩
  | true =>
    obtain ⟨h1, h2⟩ := isB_true hb
    obtain ⟨m, rfl⟩ : ∃ m : Nat, n = (m : Int) := ⟨n.toNat, by omega⟩
    have hm : m < s.length := by omega
    obtain ⟨x, hx⟩ : ∃ x, s[m]? = some x := ⟨_, List.getElem?_eq_getElem hm⟩
    have hch := wf.chars m x hx
    by_cases hk : k < 0 ∨ (sizeN x : Int) < k
    · have e : placeFault s m k = ((m : Int), 3) := by simp [placeFault, hb, sizeAt_eq hx, hk]
      rw [e] at hf
      cases hf
      cases ht : x.t with
      | true =>
        rw [sizeN_text ht] at hk
        exact ⟨_, errOf_O m k, fun W F bf bn cap pn h => place_text h m k x hx ht hch.2 (by unfold lots; omega) hk⟩
      | false =>
        rw [sizeN_elem ht] at hk
        exact ⟨_, errOf_P m 3 (by decide), fun W F bf bn cap pn h => place_elem h m k x hx ht hk⟩
    · have e : placeFault s m k = (0, 0) := by simp [placeFault, hb, sizeAt_eq hx, hk]
      rw [e] at hf
      cases hf
      exact absurd rfl hy

theorem place_good {s : List Nd} (wf : WF s) (n k : Int) (a y : Int) (hf : placeFault s n k = (a, y)) (hy : y = 0) :
    ∃ m q : Nat, n = m ∧ k = q ∧ m < s.length ∧ q ≤ sizeAt s m ∧ placeFault s m q = (0, 0) ∧ ∀ (W : World) (F : Nat → Prop) (bf bn cap : Nat) (pn : List PN), PForAt W F bf bn cap pn s → Calls Tryz.prog 98 #[ptr bf, .agg #[.int .i64 (m : Int), .int .i64 (q : Int)]] W fun e w' => e = .returned .nilIface ∧ Below W.heap.size W w' := by
  cases hb : isB s n with
  | false =>
    have e : placeFault s n k = (n, 1) := by simp [placeFault, hb]
    rw [e] at hf
    cases hf
    cases hy
  | true =>
    obtain ⟨h1, h2⟩ := isB_true hb
    obtain ⟨m, rfl⟩ : ∃ m : Nat, n = (m : Int) := ⟨n.toNat, by omega⟩
    have hm : m < s.length := by omega
    obtain ⟨x, hx⟩ : ∃ x, s[m]? = some x := ⟨_, List.getElem?_eq_getElem hm⟩
    have hch := wf.chars m x hx
    by_cases hk : k < 0 ∨ (sizeN x : Int) < k
    · have e : placeFault s m k = ((m : Int), 3) := by simp [placeFault, hb, sizeAt_eq hx, hk]
      rw [e] at hf
      cases hf
      cases hy
    · obtain ⟨q, rfl⟩ : ∃ q : Nat, k = (q : Int) := ⟨k.toNat, by omega⟩
      have hk' : q ≤ sizeN x := by omega
      have e : placeFault s m q = (0, 0) := by simp [placeFault, hb, sizeAt_eq hx, hk']
      exact ⟨m, q, rfl, rfl, hm, by rw [sizeAt_eq hx]; omega, e, fun W F bf bn cap pn h => place_ok h m q x hx hch.2 (by unfold lots; omega) (by omega)⟩

theorem where_there (l : List (Nat × Nat)) (p : Nat × Nat) : ∃ q, IsWhere l p q := by
  induction l with
  | nil => exact ⟨-1, .inr ⟨rfl, by simp⟩⟩
  | cons a l ih =>
    by_cases h : p = a
    · exact ⟨0, .inl ⟨0, rfl, by simp [h], by simp⟩⟩
    · obtain ⟨q, hq | hq⟩ := ih
      · obtain ⟨m, h1, h2, h3⟩ := hq
        exact ⟨(m + 1 : Nat), .inl ⟨m + 1, rfl, by simpa using h2, by simp [h3, h]⟩⟩
      · exact ⟨-1, .inr ⟨rfl, by simp [hq.2, h]⟩⟩

theorem ans_compare (s : List Nd) (wf : WF s) (p0 p1 q0 q1 : Int) : ∃ n : Int, Ans PDoc GG ⟨s, []⟩ 26 80 [.agg #[.int .i64 p0, .int .i64 p1], .agg #[.int .i64 q0, .int .i64 q1]] (fun v => .tuple #[.int .i64 n, v]) (fun v => .tuple #[.int .i64 n, v]) := by
  obtain ⟨f0, f1, hf⟩ : ∃ a y, placeFault s p0 p1 = (a, y) := ⟨_, _, rfl⟩
  obtain ⟨g0, g1, hg'⟩ : ∃ a y, placeFault s q0 q1 = (a, y) := ⟨_, _, rfl⟩
  by_cases h1 : f1 = 0
  · obtain ⟨n, k, rfl, rfl, hn, hk, hf0, PA⟩ := place_good wf p0 p1 f0 f1 hf h1
    by_cases h2 : g1 = 0
    · obtain ⟨n2, k2, rfl, rfl, hn2, hk2, hg0, PB⟩ := place_good wf q0 q1 g0 g1 hg' h2
      have htf : ∀ m, ∃ t, m < s.length → IsTop s m t := fun m => by
        by_cases hm : m < s.length
        · obtain ⟨t, ht⟩ := top_there wf m hm; exact ⟨t, fun _ => ht⟩
        · exact ⟨0, fun h => absurd h hm⟩
      obtain ⟨tf, htf⟩ := Classical.axiomOfChoice htf
      by_cases he : tf n = tf n2
      · obtain ⟨h, B, u⟩ := wf.up
        obtain ⟨qa, ha⟩ := where_there (plF s (B + 1) (tf n)) (n, k)
        obtain ⟨qb, hb⟩ := where_there (plF s (B + 1) (tf n)) (n2, k2)
        refine ⟨cmpB (decide (qa < qb)) (decide (qb < qa)), 0, 0, ⟨s, []⟩, ⟨wf, rfl⟩, ?_, ?_⟩
        · intro w F bx hg hP
          refine mcompare_of hg hP (.inl rfl) n k n2 k2 (errOf_nil 0) (fun W F' bf h => ?_)
          · have h' := h
            obtain ⟨bn, cap, pn, h⟩ := h
            refine (tcompare_one wf h' n k n2 k2 tf htf hn hn2 he (fun W hb => PA W _ bf bn cap pn (h.below hb)) (fun W hb => PB W _ bf bn cap pn (h.below hb))).mono ?_
            rintro e w' ⟨l, l2, wa, wb, rfl, hbl⟩
            refine ⟨?_, hbl⟩
            rw [cmp_ways wf u wa wb hk hk2 ha hb]
            by_cases c1 : qa < qb
            · rw [if_pos c1, decide_eq_true c1]; rfl
            · by_cases c2 : qb < qa
              · rw [if_neg c1, if_pos c2, decide_eq_false c1, decide_eq_true c2]; rfl
              · rw [if_neg c1, if_neg c2, decide_eq_false c1, decide_eq_false c2]; rfl
        · intro w F bd hR
          have hR' := hR
          obtain ⟨bn, cap, rn, rv, hD⟩ := hR
          exact (compare_one (s := s) wf u hD n k n2 k2 tf htf hn hn2 hf0 hg0 he qa qb ha hb _ _ rfl rfl).mono fun e w' ⟨h1, h2⟩ => hR'.unchanged h2 h1
      · refine ⟨0, n2, 9, ⟨s, []⟩, ⟨wf, rfl⟩, ?_, ?_⟩
        · intro w F bx hg hP
          refine mcompare_of hg hP (.inr ⟨_, rfl⟩) n k n2 k2 (errOf_P n2 9 (by decide)) (fun W F' bf h => ?_)
          · have h' := h
            obtain ⟨bn, cap, pn, h⟩ := h
            exact (tcompare_roots wf h' n k n2 k2 tf htf hn hn2 he (fun W hb => PA W _ bf bn cap pn (h.below hb)) (fun W hb => PB W _ bf bn cap pn (h.below hb)))
        · intro w F bd hR
          have hR' := hR
          obtain ⟨bn, cap, rn, rv, hD⟩ := hR
          exact (compare_roots (s := s) wf hD n k n2 k2 tf htf hn hn2 hf0 hg0 he).mono fun e w' ⟨h1, h2⟩ => hR'.unchanged h2 h1
    · obtain ⟨u, hE, PB⟩ := place_bad wf q0 q1 g0 g1 hg' h2
      refine ⟨0, g0, g1, ⟨s, []⟩, ⟨wf, rfl⟩, ?_, ?_⟩
      · intro w F bx hg hP
        refine mcompare_of hg hP (.inr ⟨u, rfl⟩) n k q0 q1 hE (fun W F' bf h => ?_)
        · obtain ⟨bn, cap, pn, h⟩ := h
          exact (tcompare_b bf n k q0 q1 u (fun W hb => PA W _ bf bn cap pn (h.below hb)) (fun W hb => PB W _ bf bn cap pn (h.below hb)))
      · intro w F bd hR
        have hR' := hR
        obtain ⟨bn, cap, rn, rv, hD⟩ := hR
        exact (compare_b (s := s) hD n k q0 q1 g0 g1 hf0 hg' h2).mono fun e w' ⟨h1, h2⟩ => hR'.unchanged h2 h1
  · obtain ⟨u, hE, PA⟩ := place_bad wf p0 p1 f0 f1 hf h1
    refine ⟨0, f0, f1, ⟨s, []⟩, ⟨wf, rfl⟩, ?_, ?_⟩
    · intro w F bx hg hP
      refine mcompare_of hg hP (.inr ⟨u, rfl⟩) p0 p1 q0 q1 hE (fun W F' bf h => ?_)
      · obtain ⟨bn, cap, pn, h⟩ := h
        exact (tcompare_a bf p0 p1 q0 q1 u (fun W hb => PA W _ bf bn cap pn (h.below hb)))
    · intro w F bd hR
      have hR' := hR
      obtain ⟨bn, cap, rn, rv, hD⟩ := hR
      exact (compare_a (s := s) hD p0 p1 q0 q1 f0 f1 hf h1).mono fun e w' ⟨h1, h2⟩ => hR'.unchanged h2 h1

end Go.Proofs.YtabogkonklplcaaGreatDoor
