import Derived.Test.YtabogkonklplcaaGreatDoorL20
import Derived.Test.YtabogkonklplcaaGreatDoorL29

namespace Go.Proofs.YtabogkonklplcaaGreatDoor
open Go.RowKit
set_option linter.unusedSimpArgs false
set_option linter.unusedVariables false
theorem dig_all : ∀ n : Fin 40, (digB n.val).data.toList = Lib.decDigits n.val := by decide +kernel
theorem dig_eq (n : Nat) (h : n < 40) : (⟨(Lib.decDigits n).toArray⟩ : ByteArray) = digB n := by
  rw [← dig_all ⟨n, h⟩]
theorem text_pre (a : ByteArray) (l : List ByteArray) : ∀ b : ByteArray, l.foldl textStep (a ++ b) = a ++ l.foldl textStep b := by
  induction l with
  | nil => intro b; rfl
  | cons c l ih =>
    intro b
    rw [List.foldl_cons, List.foldl_cons, ← ih]
    congr 1
    unfold textStep
    split <;> simp only [ByteArray.append_assoc]
section
variable {w : World} {F : Nat → Prop} {bf bn cap : Nat} {pn : List PN} {s : List Nd}
theorem PForAt.under {B : Nat} {w' : World} (h : PForAt w F bf bn cap pn s) (hF : ∀ b, F b → b < B) (hb : Below B w w') : PForAt w' F bf bn cap pn s :=
  h.keeps (G := fun b => B ≤ b) ⟨hb.os, hb.tape, hb.output, hb.size, fun k hk hn => hb.block k (by omega)⟩ (fun b h1 h2 => by have := hF b h1; omega)
def Wrote (B b : Nat) (t : ByteArray) (w : World) (e : Ending) (w' : World) : Prop := e = .returned (.tuple #[]) ∧ BldU B b (Lib.strCells t) w' ∧ Below B w w'
set_option maxRecDepth 20000 in
set_option maxHeartbeats 1000000 in
theorem write_text {B b : Nat} (hD : PForAt w F bf bn cap pn s) (hF : ∀ b, F b → b < B) (n : Nat) (x : Nd) (hx : s[n]? = some x) (ht : x.t = true) (hn : n < 40) (acc : ByteArray) (h : Bld B b (Lib.strCells acc) w) (hBw : B ≤ w.heap.size) (hc : ∀ c ∈ x.cs, IsCh c)
    (hlen : acc.size + (x.cs.foldl textStep (digB n ++ ⟨#[39]⟩)).size + 20 < lots) :
    Calls Tryz.prog 147 #[ptr bf, ptr b, .int .i64 n] w (Wrote B b (acc ++ (x.cs.foldl textStep (digB n ++ ⟨#[39]⟩) ++ ⟨#[39]⟩)) w) := by
  have hi : n < s.length := (List.getElem?_eq_some_iff.1 hx).1
  have h0 := hD.nodesCell
  obtain ⟨r, hr, ho, c0, c1, c2, c3⟩ := hD.look hx
  rw [ht] at c1
  have hds := digB_size n
  have C1 := hid (Tryz.strconv_Itoa_small n (by omega))
  rw [dig_eq n hn] at C1
  have C2 := hid (bwrite_string (digB n) h (by rw [Lib.strCells_length]; omega) hBw)
  rw [← strCells_append] at C2
  have e1 : x.cs.foldl textStep (acc ++ digB n ++ ⟨#[39]⟩) = acc ++ x.cs.foldl textStep (digB n ++ ⟨#[39]⟩) := by rw [ByteArray.append_assoc]; exact text_pre _ _ _
  have C3 := hid (fun (w1 : World) (h1 : BldU B b (Lib.strCells (acc ++ digB n)) w1) (hB1 : B ≤ w1.heap.size) => quoted_any x.cs (acc ++ digB n) (bld_of h1) hB1 hc (by rw [e1, ByteArray.size_append]; omega)
    (fun l r hlr => by rw [hlr, List.foldl_append]; exact text_mono r _))
  rw [e1, ByteArray.append_assoc] at C3
  have HD := hid (fun w1 (hb : Below B w w1) => (hD.under hF hb).look hx)
  have HN := hid (fun w1 (hb : Below B w w1) => (hD.under hF hb).nodesCell)
  clear hD hr ho hx c0 c2 c3 e1 h hlen hc hF
  go_enter Tryz.func147, Tryz.ntmps147
  go_wp2_with first
    | (go_at_call 175; refine (C1.out _).mono ?_; rintro e w1 ⟨rfl, rfl⟩)
    | (go_at_call 174; refine C2.out.mono ?_; rintro e w2 ⟨rfl, hu2, hb2, _⟩
       have hs2 := hb2.size
       have d0 := HN.out w2 hb2
       obtain ⟨r2, _, _, _, _, _, d3⟩ := HD.out w2 hb2
       have C4 := hid (C3.out w2 hu2 (by omega)))
    | (go_at_call 176; refine C4.out.mono ?_; rintro e w3 ⟨rfl, hu3, hb3⟩)
  go_end0
  exact ⟨rfl, hu3, hb2.trans hb3⟩
end
end Go.Proofs.YtabogkonklplcaaGreatDoor

namespace Go.Proofs.YtabogkonklplcaaGreatDoor
open Go.RowKit Go.Lib
set_option linter.unusedSimpArgs false
set_option linter.unusedVariables false
set_option maxRecDepth 20000 in
set_option maxHeartbeats 1000000 in
theorem mcompare_of {w : World} {F : Nat → Prop} {bx : Nat} {st : St} (hg : GG w) (hP : PLies w F bx st) {r : Int} {v : Value} (hv : v = .nilIface ∨ ∃ u, v = .iface 145 u) (p0 p1 q0 q1 : Int) {a y : Int} (hE : ErrOf v a y)
    (hT : ∀ (W : World) (F' : Nat → Prop) (bf : Nat), PFor W F' bf st.n → Calls Tryz.prog 62 #[ptr bf, .agg #[.int .i64 p0, .int .i64 p1], .agg #[.int .i64 q0, .int .i64 q1]] W fun e w' => e = .returned (.tuple #[.int .i64 r, v]) ∧ Below W.heap.size W w') :
    Calls Tryz.prog 26 #[ptr bx, .agg #[.int .i64 p0, .int .i64 p1], .agg #[.int .i64 q0, .int .i64 q1]] w (PLPost F w bx st (.tuple #[.int .i64 r, errV a y])) := by
  have hP' := hP
  obtain ⟨bf, bl, sv, hD⟩ := hP
  have C := hid (fun W (hb : Below w.heap.size w W) => hT W _ _ (hD.nodes.below hb))
  have hlx := heap_lt hD.doc
  have c0 : w.cell? ⟨bx, 0, none⟩ = some (ptr bf) := cell_of_heap hD.doc 0
  have E := hid (fun w1 (hb : Below w.heap.size w w1) => hE w1 (hg.below hb).1)
  have HP := hid hP'
  have HT := hid (ptwo_below w p0 p1 q0 q1)
  clear hD hT hg hE hP'
  rcases hv with rfl | ⟨u, rfl⟩
  all_goals
    go_enter Tryz.func26, Tryz.ntmps26
    go_wp2
    go_region_held3 (fun w' => w'.cell? ⟨bx, 0, none⟩ = some (ptr bf) ∧ w'.cell? ⟨w.heap.size, 0, none⟩ = some (.int .i64 p0) ∧ w'.cell? ⟨w.heap.size, 1, none⟩ = some (.int .i64 p1) ∧ w'.cell? ⟨w.heap.size + 1, 0, none⟩ = some (.int .i64 q0) ∧ w'.cell? ⟨w.heap.size + 1, 1, none⟩ = some (.int .i64 q1)) (first | exact KEEP1.out | go_keep) ((
       go_at_call 62
       refine (C.out _ (by first | exact HT.out | exact HT.out.drew | exact below_drewN HT.out _)).mono ?_
       rintro e w1 ⟨rfl, hb⟩
       have hb' : Below (ptwo w p0 p1 q0 q1).heap.size (ptwo w p0 p1 q0 q1) w1 := ⟨hb.os, hb.tape, hb.output, hb.size, hb.block⟩
       obtain ⟨k1, k2⟩ := ptwo_cells hb'
       have HB1 := hid (HT.out.trans (hb'.mono HT.out.size))
       have KEEP1 : Hid (w1.cell? ⟨bx, 0, none⟩ = some (ptr bf) ∧ w1.cell? ⟨w.heap.size, 0, none⟩ = some (.int .i64 p0) ∧ w1.cell? ⟨w.heap.size, 1, none⟩ = some (.int .i64 p1) ∧ w1.cell? ⟨w.heap.size + 1, 0, none⟩ = some (.int .i64 q0) ∧ w1.cell? ⟨w.heap.size + 1, 1, none⟩ = some (.int .i64 q1)) :=
         ⟨(HB1.out.cell (p := ⟨bx, 0, none⟩) hlx).trans c0, cell_of_heap k1 0, cell_of_heap k1 1, cell_of_heap k2 0, cell_of_heap k2 1⟩
       have E1 := hid (E.out w1 HB1.out)
       clear hb hb' k1 k2))
    go_wp2_with (go_at_call 46; refine E1.out.mono ?_; rintro e w2 ⟨rfl, hb2⟩)
    go_ret2
    have hb := HB1.out.trans (hb2.mono HB1.out.size)
    exact ⟨rfl, Keeps.of_below hb, (HP.out.keeps (Keeps.of_below (F := fun _ => False) hb) (fun _ _ e => e)).wider (fun b h => .inl h)⟩
theorem place_bad {s : List Nd} (wf : WF s) (n k a y : Int) (hf : placeFault s n k = (a, y)) (hy : y ≠ 0) :
    ∃ u, ErrOf (.iface 145 u) a y ∧ ∀ (W : World) (F : Nat → Prop) (bf bn cap : Nat) (pn : List PN), PForAt W F bf bn cap pn s → Calls Tryz.prog 98 #[ptr bf, .agg #[.int .i64 n, .int .i64 k]] W fun e w' => e = .returned (.iface 145 u) ∧ Below W.heap.size W w' := by
  cases hb : isB s n with
  | false =>
    have e : placeFault s n k = (n, 1) := by simp [placeFault, hb]
    rw [e] at hf
    cases hf
    exact ⟨_, errOf_P n 1 (by decide), fun W F bf bn cap pn h => place_no h n k hb⟩
  | true =>
    obtain ⟨h1, h2⟩ := isB_true hb
    obtain ⟨m, rfl⟩ : ∃ m : Nat, n = (m : Int) := ⟨n.toNat, by omega⟩
    have hm : m < s.length := by omega
    obtain ⟨x, hx⟩ : ∃ x, s[m]? = some x := ⟨_, List.getElem?_eq_getElem hm⟩
    have hch := wf.chars m x hx
    by_cases hk : k < 0 ∨ (sizeN x : Int) < k
    · have e : placeFault s m k = ((m : Int), 3) := by simp [placeFault, hb, sizeAt_eq hx, hk]
      rw [e] at hf
      cases hf
      cases ht : x.t with
      | true =>
        rw [sizeN_text ht] at hk
        exact ⟨_, errOf_O m k, fun W F bf bn cap pn h => place_text h m k x hx ht hch.2 (by unfold lots; omega) hk⟩
      | false =>
        rw [sizeN_elem ht] at hk
        exact ⟨_, errOf_P m 3 (by decide), fun W F bf bn cap pn h => place_elem h m k x hx ht hk⟩
    · have e : placeFault s m k = (0, 0) := by simp [placeFault, hb, sizeAt_eq hx, hk]
      rw [e] at hf
      cases hf
      exact absurd rfl hy
theorem place_good {s : List Nd} (wf : WF s) (n k : Int) (a y : Int) (hf : placeFault s n k = (a, y)) (hy : y = 0) :
    ∃ m q : Nat, n = m ∧ k = q ∧ m < s.length ∧ q ≤ sizeAt s m ∧ placeFault s m q = (0, 0) ∧ ∀ (W : World) (F : Nat → Prop) (bf bn cap : Nat) (pn : List PN), PForAt W F bf bn cap pn s → Calls Tryz.prog 98 #[ptr bf, .agg #[.int .i64 (m : Int), .int .i64 (q : Int)]] W fun e w' => e = .returned .nilIface ∧ Below W.heap.size W w' := by
  cases hb : isB s n with
  | false =>
    have e : placeFault s n k = (n, 1) := by simp [placeFault, hb]
    rw [e] at hf
    cases hf
    cases hy
  | true =>
    obtain ⟨h1, h2⟩ := isB_true hb
    obtain ⟨m, rfl⟩ : ∃ m : Nat, n = (m : Int) := ⟨n.toNat, by omega⟩
    have hm : m < s.length := by omega
    obtain ⟨x, hx⟩ : ∃ x, s[m]? = some x := ⟨_, List.getElem?_eq_getElem hm⟩
    have hch := wf.chars m x hx
    by_cases hk : k < 0 ∨ (sizeN x : Int) < k
    · have e : placeFault s m k = ((m : Int), 3) := by simp [placeFault, hb, sizeAt_eq hx, hk]
      rw [e] at hf
      cases hf
      cases hy
    · obtain ⟨q, rfl⟩ : ∃ q : Nat, k = (q : Int) := ⟨k.toNat, by omega⟩
      have hk' : q ≤ sizeN x := by omega
      have e : placeFault s m q = (0, 0) := by simp [placeFault, hb, sizeAt_eq hx, hk']
      exact ⟨m, q, rfl, rfl, hm, by rw [sizeAt_eq hx]; omega, e, fun W F bf bn cap pn h => place_ok h m q x hx hch.2 (by unfold lots; omega) (by omega)⟩
theorem where_there (l : List (Nat × Nat)) (p : Nat × Nat) : ∃ q, IsWhere l p q := by
  induction l with
  | nil => exact ⟨-1, .inr ⟨rfl, by simp⟩⟩
  | cons a l ih =>
    by_cases h : p = a
    · exact ⟨0, .inl ⟨0, rfl, by simp [h], by simp⟩⟩
    · obtain ⟨q, hq | hq⟩ := ih
      · obtain ⟨m, h1, h2, h3⟩ := hq
        exact ⟨(m + 1 : Nat), .inl ⟨m + 1, rfl, by simpa using h2, by simp [h3, h]⟩⟩
      · exact ⟨-1, .inr ⟨rfl, by simp [hq.2, h]⟩⟩
end Go.Proofs.YtabogkonklplcaaGreatDoor
