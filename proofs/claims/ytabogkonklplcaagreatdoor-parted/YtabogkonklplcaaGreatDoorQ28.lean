import Derived.Test.YtabogkonklplcaaGreatDoorQ25
import Derived.Test.YtabogkonklplcaaGreatDoorQ27

namespace Go.Proofs.YtabogkonklplcaaGreatDoor
open Go.RowKit
set_option linter.unusedSimpArgs false
set_option linter.unusedVariables false
section
variable {w : World} {F : Nat → Prop} {bf bn cap : Nat} {pn : List PN} {s : List Nd}
set_option maxRecDepth 20000 in
set_option maxHeartbeats 2000000 in
theorem write_elem {B b : Nat} (hD : PForAt w F bf bn cap pn s) (hF : ∀ b, F b → b < B) (n : Nat) (x : Nd) (f : Nat → ByteArray) (hx : s[n]? = some x) (ht : x.t = false) (hn : n < 40) (hks : x.ks.length < lots) (acc : ByteArray) (h : Bld B b (Lib.strCells acc) w) (hBw : B ≤ w.heap.size)
    (hlen : acc.size + (x.ks.foldl (elemStep f) (⟨#[60]⟩ ++ digB n)).size + 20 < lots)
    (ih : ∀ c ∈ x.ks, ∀ (w1 : World) (a1 : ByteArray), PForAt w1 F bf bn cap pn s → Bld B b (Lib.strCells a1) w1 → B ≤ w1.heap.size → a1.size + (f c).size + 20 < lots → Calls Tryz.prog 147 #[ptr bf, ptr b, .int .i64 c] w1 (Wrote B b (a1 ++ f c) w1)) :
    Calls Tryz.prog 147 #[ptr bf, ptr b, .int .i64 n] w (Wrote B b (acc ++ (x.ks.foldl (elemStep f) (⟨#[60]⟩ ++ digB n) ++ ⟨#[62]⟩)) w) := by
  have hi : n < s.length := (List.getElem?_eq_some_iff.1 hx).1
  have h0 := hD.nodesCell
  obtain ⟨r, hr, ho, c0, c1, c2, c3⟩ := hD.look hx
  rw [ht] at c1
  have hds := digB_size n
  unfold lots at hks
  have hm0 := elem_mono f x.ks (⟨#[60]⟩ ++ digB n)
  have e60 : (⟨#[60]⟩ : ByteArray).size = 1 := rfl
  rw [ByteArray.size_append] at hm0
  have C0 := hid (bwrite_byte 60 h (by rw [Lib.strCells_length]; omega) hBw)
  rw [show Lib.strCells acc ++ [Value.int .u8 60] = Lib.strCells (acc ++ ⟨#[60]⟩) from by rw [strCells_append]; rfl] at C0
  have C1 := hid (Tryz.strconv_Itoa_small n (by omega))
  rw [dig_eq n hn] at C1
  have C2 := hid (fun (w1 : World) (h1 : BldU B b (Lib.strCells (acc ++ ⟨#[60]⟩)) w1) (hB1 : B ≤ w1.heap.size) => bwrite_string (digB n) (bld_of h1) (by rw [Lib.strCells_length, ByteArray.size_append]; omega) hB1)
  rw [← strCells_append, ByteArray.append_assoc] at C2
  obtain ⟨a2, d2, hv2⟩ := slice_shape ho.kids
  have HROW := hid (fun w1 (hb : Below B w w1) => (((hD.under hF hb).ok n r x hr hx).kids))
  have HC2 := hid (fun w1 (hb : Below B w w1) => (hD.under hF hb).cellAt hr 2 (by omega))
  have HN := hid (fun w1 (hb : Below B w w1) => (hD.under hF hb).nodesCell)
  have HF := hid (fun w1 (hb : Below B w w1) => hD.under hF hb)
  have HL := hid hlen
  have IH := hid ih
  have hkv : r.cells[2]? = some (.slice a2 x.ks.length d2) := by rw [← hv2]; rfl
  rw [hkv] at HC2
  rw [hv2] at HROW
  clear hD hr ho hx c0 c2 c3 h hlen hF ih hkv hv2 hm0
  have CE := hid (fun (w1 : World) (t1 : ByteArray) (h1 : BldU B b (Lib.strCells t1) w1) (ht1 : t1.size < lots) (hB1 : B ≤ w1.heap.size) => bwrite_byte 62 (bld_of h1) (by rw [Lib.strCells_length]; exact ht1) hB1)
  have fin : ∀ t1 : ByteArray, Lib.strCells t1 ++ [Value.int .u8 62] = Lib.strCells (t1 ++ ⟨#[62]⟩) := fun t1 => by rw [strCells_append]; rfl
  have FIN := hid fin
  clear fin
  go_enter Tryz.func147, Tryz.ntmps147
  go_wp2_with first
    | (go_at_call 177; refine C0.out.mono ?_; rintro e w1 ⟨rfl, hu1, hb1, _⟩
       have hs1 := hb1.size
       have C3 := hid (C2.out w1 hu1 (by omega)))
    | (go_at_call 175; refine (C1.out _).mono ?_; rintro e w9 ⟨rfl, rfl⟩)
    | (go_at_call 174; refine C3.out.mono ?_; rintro e w2 ⟨rfl, hu2, hb2, _⟩
       have hs2 := hb2.size
       have hb02 := hb1.trans hb2
       have d0 := HN.out w2 hb02
       have d2' := HC2.out w2 hb02)
  go_loopw [45] (fun a wr => ∃ j : Nat, j ≤ x.ks.length ∧ a = .int .i64 j ∧ BldU B b (Lib.strCells (acc ++ (x.ks.take j).foldl (elemStep f) (⟨#[60]⟩ ++ digB n))) wr ∧ Below B w wr) (fun a _ => x.ks.length - (intOf a).toNat)
  case atStart => exact ⟨0, Nat.zero_le _, rfl, hu2, hb02⟩
  case round =>
    obtain ⟨j, hj, rfl, hur, hbr⟩ := hrel
    have hsr := hbr.size
    have hLL := HL.out
    have hmono : ((x.ks.take j).foldl (elemStep f) (⟨#[60]⟩ ++ digB n)).size ≤ (x.ks.foldl (elemStep f) (⟨#[60]⟩ ++ digB n)).size := by
      have := elem_mono f (x.ks.drop j) ((x.ks.take j).foldl (elemStep f) (⟨#[60]⟩ ++ digB n))
      rw [← List.foldl_append, List.take_append_drop] at this
      exact this
    by_cases hjl : j < x.ks.length
    · obtain ⟨u, hu⟩ : ∃ u, x.ks[j]? = some u := ⟨_, List.getElem?_eq_getElem hjl⟩
      have hum : u ∈ x.ks := List.mem_of_getElem? hu
      have htake : x.ks.take (j + 1) = x.ks.take j ++ [u] := by rw [List.take_add_one, hu]; rfl
      have hstep : (x.ks.take (j + 1)).foldl (elemStep f) (⟨#[60]⟩ ++ digB n) = (x.ks.take j).foldl (elemStep f) (⟨#[60]⟩ ++ digB n) ++ ⟨#[32]⟩ ++ f u := by rw [htake, List.foldl_append]; rfl
      have hmono2 : ((x.ks.take (j + 1)).foldl (elemStep f) (⟨#[60]⟩ ++ digB n)).size ≤ (x.ks.foldl (elemStep f) (⟨#[60]⟩ ++ digB n)).size := by
        have := elem_mono f (x.ks.drop (j + 1)) ((x.ks.take (j + 1)).foldl (elemStep f) (⟨#[60]⟩ ++ digB n))
        rw [← List.foldl_append, List.take_append_drop] at this
        exact this
      rw [hstep] at hmono2
      rcases row_cases (HROW.out wr hbr) with ⟨_, hl0⟩ | ⟨g, cc, hv⟩
      · omega
      · cases hv
        have cel : wr.cell? ⟨g, j, none⟩ = some (.int .i64 (u : Int)) := by
          rw [(HROW.out wr hbr).cellAt j (by omega)]
          simp [intsV, hu]
        generalize (x.ks.take j).foldl (elemStep f) (⟨#[60]⟩ ++ digB n) = T at hur hmono hmono2 hstep
        rw [ByteArray.size_append, ByteArray.size_append] at hmono2
        have e32 : (⟨#[32]⟩ : ByteArray).size = 1 := rfl
        have C32 := hid (bwrite_byte 32 (bld_of hur) (by rw [Lib.strCells_length, ByteArray.size_append]; omega) (by omega))
        rw [show Lib.strCells (acc ++ T) ++ [Value.int .u8 32] = Lib.strCells (acc ++ T ++ ⟨#[32]⟩) from by rw [strCells_append (acc ++ T)]; rfl] at C32
        have CI := hid (fun (wx : World) (hx : BldU B b (Lib.strCells (acc ++ T ++ ⟨#[32]⟩)) wx) (hbx : Below B w wx) => IH.out u hum wx (acc ++ T ++ ⟨#[32]⟩) (HF.out wx hbx) (bld_of hx) (by have := hbx.size; omega) (by rw [ByteArray.size_append, ByteArray.size_append]; omega))
        have STEP := hid hstep
        have hjI : ((j : Int) < x.ks.length) := by omega
        clear hstep htake hmono hmono2 hLL hur hu hum
        go_wp2_with first
          | (go_at_call 177; refine C32.out.mono ?_; rintro e w5 ⟨rfl, hu5, hb5, _⟩
             have hb05 := hbr.trans hb5
             have CJ := hid (CI.out w5 hu5 hb05))
          | (go_at_call 147; refine CJ.out.mono ?_; rintro e w6 ⟨rfl, hu6, hb6⟩)
        go_roundw
        case rel =>
          refine ⟨j + 1, by omega, by go_num, ?_, hb05.trans hb6⟩
          rw [STEP.out, ← ByteArray.append_assoc, ← ByteArray.append_assoc]
          exact hu6
        case measure => simp [intOf]; omega
    · have hjn : ¬ (j : Int) < x.ks.length := by omega
      obtain rfl : j = x.ks.length := by omega
      rw [List.take_of_length_le (Nat.le_refl _)] at hur
      have CZ := hid (CE.out wr _ hur (by rw [ByteArray.size_append]; omega) (by omega))
      clear hmono hLL hur
      go_wp2_with (go_at_call 177; refine CZ.out.mono ?_; rintro e w3 ⟨rfl, hu3, hb3, _⟩)
      go_end0
      refine ⟨rfl, ?_, hbr.trans hb3⟩
      rw [FIN.out, ByteArray.append_assoc] at hu3
      exact hu3
end
end Go.Proofs.YtabogkonklplcaaGreatDoor

namespace Go.Proofs.YtabogkonklplcaaGreatDoor
open Go.RowKit Go.Lib
set_option linter.unusedSimpArgs false
set_option linter.unusedVariables false
set_option maxRecDepth 20000 in
set_option maxHeartbeats 1000000 in
theorem mcompare_of {w : World} {F : Nat → Prop} {bx : Nat} {st : St} (hg : GG w) (hP : PLies w F bx st) {r : Int} {v : Value} (hv : v = .nilIface ∨ ∃ u, v = .iface 145 u) (p0 p1 q0 q1 : Int) {a y : Int} (hE : ErrOf v a y)
    (hT : ∀ (W : World) (F' : Nat → Prop) (bf : Nat), PFor W F' bf st.n → Calls Tryz.prog 62 #[ptr bf, .agg #[.int .i64 p0, .int .i64 p1], .agg #[.int .i64 q0, .int .i64 q1]] W fun e w' => e = .returned (.tuple #[.int .i64 r, v]) ∧ Below W.heap.size W w') :
    Calls Tryz.prog 26 #[ptr bx, .agg #[.int .i64 p0, .int .i64 p1], .agg #[.int .i64 q0, .int .i64 q1]] w (PLPost F w bx st (.tuple #[.int .i64 r, errV a y])) := by
  have hP' := hP
  obtain ⟨bf, bl, sv, hD⟩ := hP
  have C := hid (fun W (hb : Below w.heap.size w W) => hT W _ _ (hD.nodes.below hb))
  have hlx := heap_lt hD.doc
  have c0 : w.cell? ⟨bx, 0, none⟩ = some (ptr bf) := cell_of_heap hD.doc 0
  have E := hid (fun w1 (hb : Below w.heap.size w w1) => hE w1 (hg.below hb).1)
  have HP := hid hP'
  have HT := hid (ptwo_below w p0 p1 q0 q1)
  clear hD hT hg hE hP'
  rcases hv with rfl | ⟨u, rfl⟩
  all_goals
    go_enter Tryz.func26, Tryz.ntmps26
    go_wp2
    go_region_held3 (fun w' => w'.cell? ⟨bx, 0, none⟩ = some (ptr bf) ∧ w'.cell? ⟨w.heap.size, 0, none⟩ = some (.int .i64 p0) ∧ w'.cell? ⟨w.heap.size, 1, none⟩ = some (.int .i64 p1) ∧ w'.cell? ⟨w.heap.size + 1, 0, none⟩ = some (.int .i64 q0) ∧ w'.cell? ⟨w.heap.size + 1, 1, none⟩ = some (.int .i64 q1)) (first | exact KEEP1.out | go_keep) ((
       go_at_call 62
       refine (C.out _ (by first | exact HT.out | exact HT.out.drew | exact below_drewN HT.out _)).mono ?_
       rintro e w1 ⟨rfl, hb⟩
       have hb' : Below (ptwo w p0 p1 q0 q1).heap.size (ptwo w p0 p1 q0 q1) w1 := ⟨hb.os, hb.tape, hb.output, hb.size, hb.block⟩
       obtain ⟨k1, k2⟩ := ptwo_cells hb'
       have HB1 := hid (HT.out.trans (hb'.mono HT.out.size))
       have KEEP1 : Hid (w1.cell? ⟨bx, 0, none⟩ = some (ptr bf) ∧ w1.cell? ⟨w.heap.size, 0, none⟩ = some (.int .i64 p0) ∧ w1.cell? ⟨w.heap.size, 1, none⟩ = some (.int .i64 p1) ∧ w1.cell? ⟨w.heap.size + 1, 0, none⟩ = some (.int .i64 q0) ∧ w1.cell? ⟨w.heap.size + 1, 1, none⟩ = some (.int .i64 q1)) :=
         ⟨(HB1.out.cell (p := ⟨bx, 0, none⟩) hlx).trans c0, cell_of_heap k1 0, cell_of_heap k1 1, cell_of_heap k2 0, cell_of_heap k2 1⟩
       have E1 := hid (E.out w1 HB1.out)
       clear hb hb' k1 k2))
    go_wp2_with (go_at_call 46; refine E1.out.mono ?_; rintro e w2 ⟨rfl, hb2⟩)
    go_ret2
    have hb := HB1.out.trans (hb2.mono HB1.out.size)
    exact ⟨rfl, Keeps.of_below hb, (HP.out.keeps (Keeps.of_below (F := fun _ => False) hb) (fun _ _ e => e)).wider (fun b h => .inl h)⟩
theorem place_bad {s : List Nd} (wf : WF s) (n k a y : Int) (hf : placeFault s n k = (a, y)) (hy : y ≠ 0) :
    ∃ u, ErrOf (.iface 145 u) a y ∧ ∀ (W : World) (F : Nat → Prop) (bf bn cap : Nat) (pn : List PN), PForAt W F bf bn cap pn s → Calls Tryz.prog 98 #[ptr bf, .agg #[.int .i64 n, .int .i64 k]] W fun e w' => e = .returned (.iface 145 u) ∧ Below W.heap.size W w' := by
  cases hb : isB s n with
  | false =>
    have e : placeFault s n k = (n, 1) := by simp [placeFault, hb]
    rw [e] at hf
    cases hf
    exact ⟨_, errOf_P n 1 (by decide), fun W F bf bn cap pn h => place_no h n k hb⟩
  | true =>
    obtain ⟨h1, h2⟩ := isB_true hb
    obtain ⟨m, rfl⟩ : ∃ m : Nat, n = (m : Int) := ⟨n.toNat, by omega⟩
    have hm : m < s.length := by omega
    obtain ⟨x, hx⟩ : ∃ x, s[m]? = some x := ⟨_, List.getElem?_eq_getElem hm⟩
    have hch := wf.chars m x hx
    by_cases hk : k < 0 ∨ (sizeN x : Int) < k
    · have e : placeFault s m k = ((m : Int), 3) := by simp [placeFault, hb, sizeAt_eq hx, hk]
      rw [e] at hf
      cases hf
      cases ht : x.t with
      | true =>
        rw [sizeN_text ht] at hk
        exact ⟨_, errOf_O m k, fun W F bf bn cap pn h => place_text h m k x hx ht hch.2 (by unfold lots; omega) hk⟩
      | false =>
        rw [sizeN_elem ht] at hk
        exact ⟨_, errOf_P m 3 (by decide), fun W F bf bn cap pn h => place_elem h m k x hx ht hk⟩
    · have e : placeFault s m k = (0, 0) := by simp [placeFault, hb, sizeAt_eq hx, hk]
      rw [e] at hf
      cases hf
      exact absurd rfl hy
theorem place_good {s : List Nd} (wf : WF s) (n k : Int) (a y : Int) (hf : placeFault s n k = (a, y)) (hy : y = 0) :
    ∃ m q : Nat, n = m ∧ k = q ∧ m < s.length ∧ q ≤ sizeAt s m ∧ placeFault s m q = (0, 0) ∧ ∀ (W : World) (F : Nat → Prop) (bf bn cap : Nat) (pn : List PN), PForAt W F bf bn cap pn s → Calls Tryz.prog 98 #[ptr bf, .agg #[.int .i64 (m : Int), .int .i64 (q : Int)]] W fun e w' => e = .returned .nilIface ∧ Below W.heap.size W w' := by
  cases hb : isB s n with
  | false =>
    have e : placeFault s n k = (n, 1) := by simp [placeFault, hb]
    rw [e] at hf
    cases hf
    cases hy
  | true =>
    obtain ⟨h1, h2⟩ := isB_true hb
    obtain ⟨m, rfl⟩ : ∃ m : Nat, n = (m : Int) := ⟨n.toNat, by omega⟩
    have hm : m < s.length := by omega
    obtain ⟨x, hx⟩ : ∃ x, s[m]? = some x := ⟨_, List.getElem?_eq_getElem hm⟩
    have hch := wf.chars m x hx
    by_cases hk : k < 0 ∨ (sizeN x : Int) < k
    · have e : placeFault s m k = ((m : Int), 3) := by simp [placeFault, hb, sizeAt_eq hx, hk]
      rw [e] at hf
      cases hf
      cases hy
    · obtain ⟨q, rfl⟩ : ∃ q : Nat, k = (q : Int) := ⟨k.toNat, by omega⟩
      have hk' : q ≤ sizeN x := by omega
      have e : placeFault s m q = (0, 0) := by simp [placeFault, hb, sizeAt_eq hx, hk']
      exact ⟨m, q, rfl, rfl, hm, by rw [sizeAt_eq hx]; omega, e, fun W F bf bn cap pn h => place_ok h m q x hx hch.2 (by unfold lots; omega) (by omega)⟩
theorem where_there (l : List (Nat × Nat)) (p : Nat × Nat) : ∃ q, IsWhere l p q := by
  induction l with
  | nil => exact ⟨-1, .inr ⟨rfl, by simp⟩⟩
  | cons a l ih =>
    by_cases h : p = a
    · exact ⟨0, .inl ⟨0, rfl, by simp [h], by simp⟩⟩
    · obtain ⟨q, hq | hq⟩ := ih
      · obtain ⟨m, h1, h2, h3⟩ := hq
        exact ⟨(m + 1 : Nat), .inl ⟨m + 1, rfl, by simpa using h2, by simp [h3, h]⟩⟩
      · exact ⟨-1, .inr ⟨rfl, by simp [hq.2, h]⟩⟩
end Go.Proofs.YtabogkonklplcaaGreatDoor
