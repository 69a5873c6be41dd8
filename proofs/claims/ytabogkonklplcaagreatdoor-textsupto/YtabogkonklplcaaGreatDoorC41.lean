import Derived.Test.YtabogkonklplcaaGreatDoorC40
import Derived.Test.YtabogkonklplcaaGreatDoorC37
import Derived.Test.YtabogkonklplcaaGreatDoorC34
import Derived.Test.YtabogkonklplcaaGreatDoorC26
import Derived.Laws.AppendOwnNone

/- tree.findText, tree.Replace. -/
namespace Go.Proofs.YtabogkonklplcaaGreatDoor
open Go.RowKit Go.Lib
set_option linter.unusedSimpArgs false
set_option linter.unusedVariables false

theorem errOf_O (n k : Int) : ErrOf (.iface 145 (.agg #[.int .i64 n, outV k])) n 3 := fun w hg => (fault_O n k w hg).mono fun e w' ⟨h1, h2⟩ => ⟨by rw [h1]; simp [errV], h2⟩

section
variable {w : World} {F : Nat → Prop} {bf bn cap : Nat} {pn : List PN} {s : List Nd}

set_option maxHeartbeats 400000 in
theorem findText_no (hD : PForAt w F bf bn cap pn s) (n : Int) (h : isB s n = false) : Calls Tryz.prog 101 #[ptr bf, .int .i64 n] w fun e w' => e = .returned (refusalV n 1) ∧ w' = w := by
  have C := hid (find_no hD n h)
  clear hD h
  go_enter Tryz.func101, Tryz.ntmps101
  go_wp2_with (go_at_call 87; refine C.out.mono ?_; rintro e w1 ⟨rfl, rfl⟩)
  go_ret
  exact ⟨rfl, rfl⟩

set_option maxHeartbeats 400000 in
theorem findText_kind (hD : PForAt w F bf bn cap pn s) (n : Nat) (x : Nd) (hx : s[n]? = some x) (ht : x.t = false) : Calls Tryz.prog 101 #[ptr bf, .int .i64 n] w fun e w' => e = .returned (refusalV n 2) ∧ w' = w := by
  have hi : n < s.length := (List.getElem?_eq_some_iff.1 hx).1
  have C := hid (find_yes hD n (isB_of (by omega)))
  have h0 := hD.nodesCell
  obtain ⟨r, hr, ho, c0, c1, c2, c3⟩ := hD.look hx
  rw [ht] at c1
  clear hD c0 c2 c3 hr ho hx
  go_enter Tryz.func101, Tryz.ntmps101
  go_wp2_with (go_at_call 87; refine C.out.mono ?_; rintro e w1 ⟨rfl, rfl⟩)
  go_ret
  exact ⟨rfl, rfl⟩

set_option maxHeartbeats 400000 in
theorem findText_ok (hD : PForAt w F bf bn cap pn s) (n : Nat) (x : Nd) (hx : s[n]? = some x) (ht : x.t = true) : Calls Tryz.prog 101 #[ptr bf, .int .i64 n] w fun e w' => e = .returned .nilIface ∧ w' = w := by
  have hi : n < s.length := (List.getElem?_eq_some_iff.1 hx).1
  have C := hid (find_yes hD n (isB_of (by omega)))
  have h0 := hD.nodesCell
  obtain ⟨r, hr, ho, c0, c1, c2, c3⟩ := hD.look hx
  rw [ht] at c1
  clear hD c0 c2 c3 hr ho hx
  go_enter Tryz.func101, Tryz.ntmps101
  go_wp2_with (go_at_call 87; refine C.out.mono ?_; rintro e w1 ⟨rfl, rfl⟩)
  go_ret
  exact ⟨rfl, rfl⟩

/-- One node's characters are others now. -/
theorem PForAt.newChars (h : PForAt w F bf bn cap pn s) {i : Nat} {x : Nd} {cs' : List ByteArray} (hx : s[i]? = some x) :
    ∃ pn2, PForAt (w.setCell ⟨bn, i * 4 + 3, none⟩ (.string (catB cs'))) F bf bn cap pn2 (s.set i { x with cs := cs' }) := by
  obtain ⟨r, hr, ho⟩ := h.raw hx
  exact ⟨_, h.setNode (r' := { r with ch := catB cs' }) (x' := { x with cs := cs' }) hr hx 3 (by omega) _ rfl ⟨ho.t, ho.p, rfl, ho.kids, ho.apart⟩ (fun k r1 hk h1 b e => h.sep i k r r1 (fun e => hk e.symm) hr h1 b e)⟩
end

section
variable {w : World} {F : Nat → Prop} {bf : Nat} {s : List Nd}

set_option maxHeartbeats 400000 in
theorem treplace_unfit (hD : PFor w F bf s) (n o c : Int) (t : ByteArray) (u : Value) (hT : Calls Tryz.prog 101 #[ptr bf, .int .i64 n] w fun e w' => e = .returned (.iface 145 u) ∧ w' = w) :
    Calls Tryz.prog 68 #[ptr bf, .int .i64 n, .int .i64 o, .int .i64 c, .string t] w (TPost F w bf s (.tuple #[.nilFunc, .iface 145 u])) := by
  have HD := hid hD
  have C := hid hT
  clear hD hT
  go_enter Tryz.func68, Tryz.ntmps68
  go_wp2_with (go_at_call 101; refine C.out.mono ?_; rintro e w1 ⟨rfl, rfl⟩)
  go_ret2
  exact ⟨rfl, Keeps.refl _ _, HD.out.wider (fun b h => .inl h)⟩

set_option maxHeartbeats 1000000 in
theorem treplace_bad (hD : PFor w F bf s) (n : Nat) (o c : Int) (t : ByteArray) (x : Nd) (hx : s[n]? = some x) (ht : x.t = true) {Q : Value → Prop}
    (hS : ∀ w1, Below w.heap.size w w1 → Calls Tryz.prog 113 #[.string (catB x.cs), .int .i64 o, .int .i64 c, .string t, .int .i64 30] w1 fun e w' => (∃ ty v, Q (.iface ty v) ∧ e = .returned (.tuple #[.string ⟨#[]⟩, .iface ty v])) ∧ Below w1.heap.size w1 w') :
    Calls Tryz.prog 68 #[ptr bf, .int .i64 n, .int .i64 o, .int .i64 c, .string t] w fun e w' => ∃ u, Q u ∧ TPost F w bf s (.tuple #[.nilFunc, .iface 145 (.agg #[.int .i64 n, u])]) e w' := by
  have HD := hid hD
  obtain ⟨bn, cap, pn, hD⟩ := hD
  have hi : n < s.length := (List.getElem?_eq_some_iff.1 hx).1
  have C := hid (findText_ok hD n x hx ht)
  have h0 := hD.nodesCell
  have hlt := hD.lt
  obtain ⟨r, hr, ho, c0, c1, c2, c3⟩ := hD.look hx
  have CS := hid hS
  clear hD c0 c1 c2 hr ho hx hS
  go_enter Tryz.func68, Tryz.ntmps68
  go_wp2_with first
    | (go_at_call 101; refine C.out.mono ?_; rintro e w1 ⟨rfl, hw1⟩; replace hw1 := hw1.symm; subst hw1)
    | (go_at_call 113; refine (CS.out _ (by first | exact Below.refl _ _ | go_grown)).mono ?_; rintro e w2 ⟨⟨ty, v, hQ, rfl⟩, hb2⟩)
  go_ret2
  exact ⟨_, hQ, rfl, Keeps.of_below hb2, (HD.out.below hb2).wider (fun b h => .inl h)⟩

set_option maxRecDepth 20000 in
set_option maxHeartbeats 1000000 in
theorem treplace_done (hD : PFor w F bf s) (n : Nat) (o : Nat) (c : Int) (t : ByteArray) (x : Nd) (hx : s[n]? = some x) (ht : x.t = true) (hlen : x.cs.length ≤ 30) (hch : ∀ d ∈ x.cs, IsCh d) (ho' : o ≤ x.cs.length) (lf cs' : List ByteArray) (hlf : charsOf t = some lf) (hl30 : lf.length ≤ 30) (hc0 : 0 ≤ c)
    (hS : ∀ w1, Below w.heap.size w w1 → Calls Tryz.prog 113 #[.string (catB x.cs), .int .i64 (o : Int), .int .i64 c, .string t, .int .i64 30] w1 fun e w' => e = .returned (.tuple #[.string (catB cs'), .nilIface]) ∧ Below w1.heap.size w1 w') :
    Calls Tryz.prog 68 #[ptr bf, .int .i64 n, .int .i64 (o : Int), .int .i64 c, .string t] w (TMv (resizeF n o (min c ((x.cs.length : Int) - o)) lf.length) F w bf (s.set n { x with cs := cs' })) := by
  obtain ⟨bn, cap, pn, hD⟩ := hD
  have hi : n < s.length := (List.getElem?_eq_some_iff.1 hx).1
  have C := hid (findText_ok hD n x hx ht)
  have h0 := hD.nodesCell
  have hlt := hD.lt
  obtain ⟨r, hr, ho, c0, c1, c2, c3⟩ := hD.look hx
  have CS := hid hS
  have CC := hid (fun w1 => count_any x.cs hch (by unfold lots; omega) w1)
  have CT := hid (fun w1 => count_any lf (charsOf_isCh t.size t lf (Nat.le_refl _) hlf) (by unfold lots; omega) w1)
  rw [charsOf_cat t.size t lf (Nat.le_refl _) hlf] at CT
  have HD := hid hD
  have HX := hid hx
  have oI : (o : Int) ≤ (x.cs.length : Int) := by omega
  have lI : (x.cs.length : Int) ≤ 30 := by omega
  clear hD c0 c1 c2 hr ho hx hS hch hlf ht
  go_enter Tryz.func68, Tryz.ntmps68
  go_wp2_with first
    | (go_at_call 101; refine C.out.mono ?_; rintro e w1 ⟨rfl, hw1⟩; replace hw1 := hw1.symm; subst hw1)
    | (go_at_call 113; refine (CS.out _ (by first | exact Below.refl _ _ | go_grown)).mono ?_; rintro e w2 ⟨rfl, hb2⟩
       have d3 := (hb2.cell (p := ⟨bn, n * 4 + 3, none⟩) hlt.2).trans c3)
    | (go_at_call 105; refine (CC.out _).mono ?_; clear CC; rintro e w3 ⟨rfl, hb3⟩
       have HB3 := hid (hb2.trans (hb3.mono hb2.size))
       have g3 := (HB3.out.cell (p := ⟨bn, n * 4 + 3, none⟩) hlt.2).trans c3
       obtain ⟨gv, g4, gf⟩ := (HD.out.below HB3.out).cellsThere (i := n) (k := 3) hi (by omega)
       clear d3)
    | (go_at_call 105; refine (CT.out _).mono ?_; rintro e w4 ⟨rfl, hb4⟩)
    | (go_at_call 104; refine (resize_at _ _ _ _ _ (by omega) (by omega) (by omega) (by omega) (by omega) (by omega)).mono ?_; rintro e w5 ⟨bs, rfl, hb5, hM5⟩
       have H5 := hid hM5
       clear hM5)
  go_ret2
  obtain ⟨pn2, h2⟩ := (HD.out.below HB3.out).newChars (cs' := cs') HX.out
  have hb := hb4.trans (hb5.mono hb4.size)
  have hz4 := hb4.size
  rw [World.size_setCell] at hz4
  have hz3 := HB3.out.size
  exact ⟨_, _, rfl, ((Keeps.of_below HB3.out).setCell (p := ⟨bn, n * 4 + 3, none⟩) (.inl HD.out.Fn) _).trans (Keeps.of_below hb), by omega, hb5.size, ⟨_, _, _, (h2.below hb).wider (fun b h => .inl h)⟩, H5.out⟩
end

set_option maxHeartbeats 400000 in
theorem mreplace_no {w : World} {F : Nat → Prop} {bx : Nat} {s s' : List Nd} {rs : List Sp} (hg : GG w) (hP : PLies w F bx ⟨s, rs⟩) {a y : Int} (A B C : Int) (t : ByteArray)
    (hT : ∀ (F' : Nat → Prop) (bf : Nat), PFor w F' bf s → Calls Tryz.prog 68 #[ptr bf, .int .i64 A, .int .i64 B, .int .i64 C, .string t] w fun e w' => ∃ ty u, ErrOf (.iface ty u) a y ∧ TPost F' w bf s' (.tuple #[.nilFunc, .iface ty u]) e w') :
    Calls Tryz.prog 34 #[ptr bx, .int .i64 A, .int .i64 B, .int .i64 C, .string t] w (PLPost F w bx ⟨s', rs⟩ (errV a y)) := by
  obtain ⟨bf, bl, sv, hD⟩ := hP
  have C := hid (hT _ _ hD.nodes)
  have c0 : w.cell? ⟨bx, 0, none⟩ = some (ptr bf) := cell_of_heap hD.doc 0
  have AF := hid (fun w1 w2 => pdoc_after (w1 := w1) (w2 := w2) (s' := s') hg hD)
  have AG := hid (fun w1 => gg_after (w1 := w1) (F := F) (bx := bx) (bl := bl) (sv := sv) hg)
  clear hD hT hg
  go_enter Tryz.func34, Tryz.ntmps34
  go_wp2_with first
    | (go_at_call 68; refine C.out.mono ?_; rintro e w1 ⟨ty, u, hE, rfl, hk, hf⟩; have E1 := hid (mfollow_no (AG.out w1 hk) bx .nilFunc hE); have A1 := hid (fun w2 => AF.out w1 w2 hk hf); clear hk hf hE)
    | (go_at_call 64; refine E1.out.mono ?_; rintro e w2 ⟨rfl, hb⟩)
  go_ret
  exact ⟨rfl, (A1.out _ hb).1, _, _, _, (A1.out _ hb).2⟩

set_option maxHeartbeats 400000 in
theorem mreplace_of {w : World} {F : Nat → Prop} {bx : Nat} {s s' : List Nd} (hg : GG w) (hP : PLies w F bx ⟨s, []⟩) {Mv : World → Value → Prop} (A B C : Int) (t : ByteArray)
    (hT : ∀ (F' : Nat → Prop) (bf : Nat), PFor w F' bf s → Calls Tryz.prog 68 #[ptr bf, .int .i64 A, .int .i64 B, .int .i64 C, .string t] w (TMove Mv F' w bf s')) :
    Calls Tryz.prog 34 #[ptr bx, .int .i64 A, .int .i64 B, .int .i64 C, .string t] w (PLPost F w bx ⟨s', []⟩ (errV 0 0)) := by
  obtain ⟨bf, bl, sv, hD⟩ := hP
  have C := hid (hT _ _ hD.nodes)
  have c0 : w.cell? ⟨bx, 0, none⟩ = some (ptr bf) := cell_of_heap hD.doc 0
  have AF := hid (fun w1 => pdoc_after (w1 := w1) (w2 := w1) (s' := s') hg hD)
  clear hD hT hg
  go_enter Tryz.func34, Tryz.ntmps34
  go_wp2_with first
    | (go_at_call 68; refine C.out.mono ?_; rintro e w1 ⟨mv, rfl, hk, hf, hm⟩; have A1 := hid (AF.out w1 hk hf (Below.refl _ _)); have E1 := hid (mfollow_yes A1.out.2 mv); clear hk hf hm)
    | (go_at_call 64; refine E1.out.mono ?_; rintro e w2 ⟨rfl, hb⟩)
  go_ret
  exact ⟨by simp [errV], A1.out.1.trans (Keeps.of_below hb), _, _, _, A1.out.2.below hb⟩

end Go.Proofs.YtabogkonklplcaaGreatDoor

/- append of a row that may be nil, as one law: at a list of operations, and at a step of a region that draws. -/
namespace Go.Proofs.YtabogkonklplcaaGreatDoor
open Go.RowKit
set_option linter.unusedSimpArgs false
set_option linter.unusedVariables false

/-- What is appended: nil, or cells that lie there. -/
def SrcOk (w : World) (size : Nat) (xv : Value) (m : Nat) (news : List Value) : Prop :=
  (xv = .slice none 0 0 ∧ m = 0 ∧ news = []) ∨ ∃ ad c, xv = .slice (some ad) m c ∧ news.length = m * size ∧ (∀ j u, news[j]? = some u → w.cell? (ad.add j) = some u) ∧ ∀ u ∈ news, u.oneCell' = true

theorem SrcOk.of_row {w : World} {B : Nat} {e : TypeId} {n : Nat} {v : Value} {xs : List Value} (h : w.ownsRow B e 1 v n xs) (h1 : ∀ u ∈ xs, u.oneCell' = true) : SrcOk w 1 v n xs := by
  have h' := h
  obtain ⟨hl, h2⟩ := h
  rcases h2 with ⟨e1, e2⟩ | ⟨g, c', cur, e1, _, hh, _, _, _, ht⟩
  · subst e2
    exact .inl ⟨e1, rfl, List.length_eq_zero_iff.1 (by omega)⟩
  · refine .inr ⟨_, _, e1, by omega, fun j u hu => ?_, h1⟩
    rw [Addr.add_lit, Nat.zero_add, cell_of_heap hh, ← Array.getElem?_toList]
    rw [← ht, List.getElem?_take] at hu
    split at hu
    · exact hu
    · cases hu

theorem wp_append_any {P : Program} (w : World) {o : Oper} {a : Act} {K : Act → World → Prop} {Q : Exit → Act → World → Prop} (s x : Operand) (t : TypeId)
    (ho : o.op = .call { callee := .builtin .append, args := #[s, x], argTypes := #[t, t] })
    (base : Nat) (e : TypeId) (i : TypeInfo) (z : Value) (size bytes : Nat) (ht : P.underlying t = some (.slice e)) (hi : P.info? e = some i) (hz : i.zero = some z)
    (hsize : i.size = size) (hby : i.bytes = bytes) (hzs : z.cells.size = size) (hsz : 0 < size)
    (v : Value) (n : Nat) (xs : List Value) (hs : a.eval s = v) (hown : w.ownsRow base e size v n xs)
    (xv : Value) (m : Nat) (news : List Value) (hx : a.eval x = xv) (hsrc : SrcOk w size xv m news)
    (h63 : n + m ≤ maxLen) (hbytes : (n + m) * bytes ≤ 140737488355328) (hbase : base ≤ w.heap.size)
    (h : ∀ v' w', w'.ownsRow base e size v' (n + m) (xs ++ news) → Below base w w' → K (a.put o.dst v') w') : o.wp P a w K Q := by
  rcases hsrc with ⟨rfl, rfl, rfl⟩ | ⟨ad, c, rfl, hl, hn, h1⟩
  · have hrun := run_append_owned_none (P := P) (w := w) base t o.type e i size ht hi v n xs hown
    unfold Oper.wp
    simp [execOp, ho, resolve, invoke, builtin, hs, hx, hrun, Result.andThen]
    exact h v w (by simpa using hown) (Below.refl _ w)
  · exact wp_append_own w s x t ho base e i z size bytes ht hi hz hsize hby hzs hsz v n xs hs hown ad m c news hx hl hn h1 h63 hbytes hbase
      (fun v' w' h2 h3 _ => h v' w' h2 ((Below.refl base w).grown h3 hbase (fun k e => (hown.lt k e).1)))

theorem wpList_append_any {P : Program} (w : World) {ops : Array Oper} {rest : List Oper} {o : Oper} {a : Act} {Q : Exit → Act → World → Prop} (hgd : o.guard = none) (s x : Operand) (t : TypeId)
    (ho : o.op = .call { callee := .builtin .append, args := #[s, x], argTypes := #[t, t] })
    (base : Nat) (e : TypeId) (i : TypeInfo) (z : Value) (size bytes : Nat) (ht : P.underlying t = some (.slice e)) (hi : P.info? e = some i) (hz : i.zero = some z)
    (hsize : i.size = size) (hby : i.bytes = bytes) (hzs : z.cells.size = size) (hsz : 0 < size)
    (v : Value) (n : Nat) (xs : List Value) (hs : a.eval s = v) (hown : w.ownsRow base e size v n xs)
    (xv : Value) (m : Nat) (news : List Value) (hx : a.eval x = xv) (hsrc : SrcOk w size xv m news)
    (h63 : n + m ≤ maxLen) (hbytes : (n + m) * bytes ≤ 140737488355328) (hbase : base ≤ w.heap.size)
    (h : ∀ v' w', w'.ownsRow base e size v' (n + m) (xs ++ news) → Below base w w' → wpList P ops Q rest (a.put o.dst v') w') : wpList P ops Q (o :: rest) a w :=
  wpList_plain hgd fun _ hK => wp_append_any w s x t ho base e i z size bytes ht hi hz hsize hby hzs hsz v n xs hs hown xv m news hx hsrc h63 hbytes hbase fun v' w' h2 h3 => hK _ _ (h v' w' h2 h3)

theorem step_append_any {P : Program} (w : World) {ops : Array Oper} {o : Oper} {a : Act} {K : Act → World → Prop} {Q : Exit → Act → World → Prop} {E : Prop} (hgd : o.guard = none) (s x : Operand) (t : TypeId)
    (ho : o.op = .call { callee := .builtin .append, args := #[s, x], argTypes := #[t, t] })
    (base : Nat) (e : TypeId) (i : TypeInfo) (z : Value) (size bytes : Nat) (ht : P.underlying t = some (.slice e)) (hi : P.info? e = some i) (hz : i.zero = some z)
    (hsize : i.size = size) (hby : i.bytes = bytes) (hzs : z.cells.size = size) (hsz : 0 < size)
    (v : Value) (n : Nat) (xs : List Value) (hs : a.eval s = v) (hown : w.ownsRow base e size v n xs)
    (xv : Value) (m : Nat) (news : List Value) (hx : a.eval x = xv) (hsrc : SrcOk w size xv m news)
    (h63 : n + m ≤ maxLen) (hbytes : (n + m) * bytes ≤ 140737488355328) (hbase : base ≤ w.heap.size)
    (h : ∀ v' w', w'.ownsRow base e size v' (n + m) (xs ++ news) → Below base w w' → K (a.put o.dst v') w') :
    if Region.wanted o (yielded ops a.tmps) = true then Oper.wp P o a w K Q else E := by
  have hw : Region.wanted o (yielded ops a.tmps) = true := by simp [Region.wanted, hgd]
  rw [if_pos hw]
  exact wp_append_any w s x t ho base e i z size bytes ht hi hz hsize hby hzs hsz v n xs hs hown xv m news hx hsrc h63 hbytes hbase h

end Go.Proofs.YtabogkonklplcaaGreatDoor
