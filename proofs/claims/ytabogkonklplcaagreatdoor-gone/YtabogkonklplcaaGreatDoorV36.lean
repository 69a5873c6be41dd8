import Derived.Test.YtabogkonklplcaaGreatDoorV21
import Derived.Test.YtabogkonklplcaaGreatDoorV17
import Derived.Deep.RegionHeld3
import Derived.OrdersIn

namespace Go.Proofs.YtabogkonklplcaaGreatDoor
open Go.RowKit
set_option linter.unusedSimpArgs false
set_option linter.unusedVariables false
theorem dig_all : ∀ n : Fin 40, (digB n.val).data.toList = Lib.decDigits n.val := by decide +kernel
theorem dig_eq (n : Nat) (h : n < 40) : (⟨(Lib.decDigits n).toArray⟩ : ByteArray) = digB n := by
  rw [← dig_all ⟨n, h⟩]
theorem text_pre (a : ByteArray) (l : List ByteArray) : ∀ b : ByteArray, l.foldl textStep (a ++ b) = a ++ l.foldl textStep b := by
  induction l with
  | nil => intro b; rfl
  | cons c l ih =>
    intro b
    rw [List.foldl_cons, List.foldl_cons, ← ih]
    congr 1
    unfold textStep
    split <;> simp only [ByteArray.append_assoc]
section
variable {w : World} {F : Nat → Prop} {bf bn cap : Nat} {pn : List PN} {s : List Nd}
theorem PForAt.under {B : Nat} {w' : World} (h : PForAt w F bf bn cap pn s) (hF : ∀ b, F b → b < B) (hb : Below B w w') : PForAt w' F bf bn cap pn s :=
  h.keeps (G := fun b => B ≤ b) ⟨hb.os, hb.tape, hb.output, hb.size, fun k hk hn => hb.block k (by omega)⟩ (fun b h1 h2 => by have := hF b h1; omega)
def Wrote (B b : Nat) (t : ByteArray) (w : World) (e : Ending) (w' : World) : Prop := e = .returned (.tuple #[]) ∧ BldU B b (Lib.strCells t) w' ∧ Below B w w'
set_option maxRecDepth 20000 in
set_option maxHeartbeats 1000000 in
theorem write_text {B b : Nat} (hD : PForAt w F bf bn cap pn s) (hF : ∀ b, F b → b < B) (n : Nat) (x : Nd) (hx : s[n]? = some x) (ht : x.t = true) (hn : n < 40) (acc : ByteArray) (h : Bld B b (Lib.strCells acc) w) (hBw : B ≤ w.heap.size) (hc : ∀ c ∈ x.cs, IsCh c)
    (hlen : acc.size + (x.cs.foldl textStep (digB n ++ ⟨#[39]⟩)).size + 20 < lots) :
    Calls Tryz.prog 147 #[ptr bf, ptr b, .int .i64 n] w (Wrote B b (acc ++ (x.cs.foldl textStep (digB n ++ ⟨#[39]⟩) ++ ⟨#[39]⟩)) w) := by
  have hi : n < s.length := (List.getElem?_eq_some_iff.1 hx).1
  have h0 := hD.nodesCell
  obtain ⟨r, hr, ho, c0, c1, c2, c3⟩ := hD.look hx
  rw [ht] at c1
  have hds := digB_size n
  have C1 := hid (Tryz.strconv_Itoa_small n (by omega))
  rw [dig_eq n hn] at C1
  have C2 := hid (bwrite_string (digB n) h (by rw [Lib.strCells_length]; omega) hBw)
  rw [← strCells_append] at C2
  have e1 : x.cs.foldl textStep (acc ++ digB n ++ ⟨#[39]⟩) = acc ++ x.cs.foldl textStep (digB n ++ ⟨#[39]⟩) := by rw [ByteArray.append_assoc]; exact text_pre _ _ _
  have C3 := hid (fun (w1 : World) (h1 : BldU B b (Lib.strCells (acc ++ digB n)) w1) (hB1 : B ≤ w1.heap.size) => quoted_any x.cs (acc ++ digB n) (bld_of h1) hB1 hc (by rw [e1, ByteArray.size_append]; omega)
    (fun l r hlr => by rw [hlr, List.foldl_append]; exact text_mono r _))
  rw [e1, ByteArray.append_assoc] at C3
  have HD := hid (fun w1 (hb : Below B w w1) => (hD.under hF hb).look hx)
  have HN := hid (fun w1 (hb : Below B w w1) => (hD.under hF hb).nodesCell)
  clear hD hr ho hx c0 c2 c3 e1 h hlen hc hF
  go_enter Tryz.func147, Tryz.ntmps147
  go_wp2_with first
    | (go_at_call 175; refine (C1.out _).mono ?_; rintro e w1 ⟨rfl, rfl⟩)
    | (go_at_call 174; refine C2.out.mono ?_; rintro e w2 ⟨rfl, hu2, hb2, _⟩
       have hs2 := hb2.size
       have d0 := HN.out w2 hb2
       obtain ⟨r2, _, _, _, _, _, d3⟩ := HD.out w2 hb2
       have C4 := hid (C3.out w2 hu2 (by omega)))
    | (go_at_call 176; refine C4.out.mono ?_; rintro e w3 ⟨rfl, hu3, hb3⟩)
  go_end0
  exact ⟨rfl, hu3, hb2.trans hb3⟩
end
end Go.Proofs.YtabogkonklplcaaGreatDoor

namespace Go.Proofs.YtabogkonklplcaaGreatDoor
open Go.RowKit
set_option linter.unusedSimpArgs false
set_option linter.unusedVariables false
section
variable {w : World} {F : Nat → Prop} {bf bn cap : Nat} {pn : List PN} {s : List Nd}
set_option maxRecDepth 20000 in
set_option maxHeartbeats 2000000 in
theorem write_elem {B b : Nat} (hD : PForAt w F bf bn cap pn s) (hF : ∀ b, F b → b < B) (n : Nat) (x : Nd) (f : Nat → ByteArray) (hx : s[n]? = some x) (ht : x.t = false) (hn : n < 40) (hks : x.ks.length < lots) (acc : ByteArray) (h : Bld B b (Lib.strCells acc) w) (hBw : B ≤ w.heap.size)
    (hlen : acc.size + (x.ks.foldl (elemStep f) (⟨#[60]⟩ ++ digB n)).size + 20 < lots)
    (ih : ∀ c ∈ x.ks, ∀ (w1 : World) (a1 : ByteArray), PForAt w1 F bf bn cap pn s → Bld B b (Lib.strCells a1) w1 → B ≤ w1.heap.size → a1.size + (f c).size + 20 < lots → Calls Tryz.prog 147 #[ptr bf, ptr b, .int .i64 c] w1 (Wrote B b (a1 ++ f c) w1)) :
    Calls Tryz.prog 147 #[ptr bf, ptr b, .int .i64 n] w (Wrote B b (acc ++ (x.ks.foldl (elemStep f) (⟨#[60]⟩ ++ digB n) ++ ⟨#[62]⟩)) w) := by
  have hi : n < s.length := (List.getElem?_eq_some_iff.1 hx).1
  have h0 := hD.nodesCell
  obtain ⟨r, hr, ho, c0, c1, c2, c3⟩ := hD.look hx
  rw [ht] at c1
  have hds := digB_size n
  unfold lots at hks
  have hm0 := elem_mono f x.ks (⟨#[60]⟩ ++ digB n)
  have e60 : (⟨#[60]⟩ : ByteArray).size = 1 := rfl
  rw [ByteArray.size_append] at hm0
  have C0 := hid (bwrite_byte 60 h (by rw [Lib.strCells_length]; omega) hBw)
  rw [show Lib.strCells acc ++ [Value.int .u8 60] = Lib.strCells (acc ++ ⟨#[60]⟩) from by rw [strCells_append]; rfl] at C0
  have C1 := hid (Tryz.strconv_Itoa_small n (by omega))
  rw [dig_eq n hn] at C1
  have C2 := hid (fun (w1 : World) (h1 : BldU B b (Lib.strCells (acc ++ ⟨#[60]⟩)) w1) (hB1 : B ≤ w1.heap.size) => bwrite_string (digB n) (bld_of h1) (by rw [Lib.strCells_length, ByteArray.size_append]; omega) hB1)
  rw [← strCells_append, ByteArray.append_assoc] at C2
  obtain ⟨a2, d2, hv2⟩ := slice_shape ho.kids
  have HROW := hid (fun w1 (hb : Below B w w1) => (((hD.under hF hb).ok n r x hr hx).kids))
  have HC2 := hid (fun w1 (hb : Below B w w1) => (hD.under hF hb).cellAt hr 2 (by omega))
  have HN := hid (fun w1 (hb : Below B w w1) => (hD.under hF hb).nodesCell)
  have HF := hid (fun w1 (hb : Below B w w1) => hD.under hF hb)
  have HL := hid hlen
  have IH := hid ih
  have hkv : r.cells[2]? = some (.slice a2 x.ks.length d2) := by rw [← hv2]; rfl
  rw [hkv] at HC2
  rw [hv2] at HROW
  clear hD hr ho hx c0 c2 c3 h hlen hF ih hkv hv2 hm0
  have CE := hid (fun (w1 : World) (t1 : ByteArray) (h1 : BldU B b (Lib.strCells t1) w1) (ht1 : t1.size < lots) (hB1 : B ≤ w1.heap.size) => bwrite_byte 62 (bld_of h1) (by rw [Lib.strCells_length]; exact ht1) hB1)
  have fin : ∀ t1 : ByteArray, Lib.strCells t1 ++ [Value.int .u8 62] = Lib.strCells (t1 ++ ⟨#[62]⟩) := fun t1 => by rw [strCells_append]; rfl
  have FIN := hid fin
  clear fin
  go_enter Tryz.func147, Tryz.ntmps147
  go_wp2_with first
    | (go_at_call 177; refine C0.out.mono ?_; rintro e w1 ⟨rfl, hu1, hb1, _⟩
       have hs1 := hb1.size
       have C3 := hid (C2.out w1 hu1 (by omega)))
    | (go_at_call 175; refine (C1.out _).mono ?_; rintro e w9 ⟨rfl, rfl⟩)
    | (go_at_call 174; refine C3.out.mono ?_; rintro e w2 ⟨rfl, hu2, hb2, _⟩
       have hs2 := hb2.size
       have hb02 := hb1.trans hb2
       have d0 := HN.out w2 hb02
       have d2' := HC2.out w2 hb02)
  go_loopw [45] (fun a wr => ∃ j : Nat, j ≤ x.ks.length ∧ a = .int .i64 j ∧ BldU B b (Lib.strCells (acc ++ (x.ks.take j).foldl (elemStep f) (⟨#[60]⟩ ++ digB n))) wr ∧ Below B w wr) (fun a _ => x.ks.length - (intOf a).toNat)
  case atStart => exact ⟨0, Nat.zero_le _, rfl, hu2, hb02⟩
  case round =>
    obtain ⟨j, hj, rfl, hur, hbr⟩ := hrel
    have hsr := hbr.size
    have hLL := HL.out
    have hmono : ((x.ks.take j).foldl (elemStep f) (⟨#[60]⟩ ++ digB n)).size ≤ (x.ks.foldl (elemStep f) (⟨#[60]⟩ ++ digB n)).size := by
      have := elem_mono f (x.ks.drop j) ((x.ks.take j).foldl (elemStep f) (⟨#[60]⟩ ++ digB n))
      rw [← List.foldl_append, List.take_append_drop] at this
      exact this
    by_cases hjl : j < x.ks.length
    · obtain ⟨u, hu⟩ : ∃ u, x.ks[j]? = some u := ⟨_, List.getElem?_eq_getElem hjl⟩
      have hum : u ∈ x.ks := List.mem_of_getElem? hu
      have htake : x.ks.take (j + 1) = x.ks.take j ++ [u] := by rw [List.take_add_one, hu]; rfl
      have hstep : (x.ks.take (j + 1)).foldl (elemStep f) (⟨#[60]⟩ ++ digB n) = (x.ks.take j).foldl (elemStep f) (⟨#[60]⟩ ++ digB n) ++ ⟨#[32]⟩ ++ f u := by rw [htake, List.foldl_append]; rfl
      have hmono2 : ((x.ks.take (j + 1)).foldl (elemStep f) (⟨#[60]⟩ ++ digB n)).size ≤ (x.ks.foldl (elemStep f) (⟨#[60]⟩ ++ digB n)).size := by
        have := elem_mono f (x.ks.drop (j + 1)) ((x.ks.take (j + 1)).foldl (elemStep f) (⟨#[60]⟩ ++ digB n))
        rw [← List.foldl_append, List.take_append_drop] at this
        exact this
      rw [hstep] at hmono2
      rcases row_cases (HROW.out wr hbr) with ⟨_, hl0⟩ | ⟨g, cc, hv⟩
      · omega
      · cases hv
        have cel : wr.cell? ⟨g, j, none⟩ = some (.int .i64 (u : Int)) := by
          rw [(HROW.out wr hbr).cellAt j (by omega)]
          simp [intsV, hu]
        generalize (x.ks.take j).foldl (elemStep f) (⟨#[60]⟩ ++ digB n) = T at hur hmono hmono2 hstep
        rw [ByteArray.size_append, ByteArray.size_append] at hmono2
        have e32 : (⟨#[32]⟩ : ByteArray).size = 1 := rfl
        have C32 := hid (bwrite_byte 32 (bld_of hur) (by rw [Lib.strCells_length, ByteArray.size_append]; omega) (by omega))
        rw [show Lib.strCells (acc ++ T) ++ [Value.int .u8 32] = Lib.strCells (acc ++ T ++ ⟨#[32]⟩) from by rw [strCells_append (acc ++ T)]; rfl] at C32
        have CI := hid (fun (wx : World) (hx : BldU B b (Lib.strCells (acc ++ T ++ ⟨#[32]⟩)) wx) (hbx : Below B w wx) => IH.out u hum wx (acc ++ T ++ ⟨#[32]⟩) (HF.out wx hbx) (bld_of hx) (by have := hbx.size; omega) (by rw [ByteArray.size_append, ByteArray.size_append]; omega))
        have STEP := hid hstep
        have hjI : ((j : Int) < x.ks.length) := by omega
        clear hstep htake hmono hmono2 hLL hur hu hum
        go_wp2_with first
          | (go_at_call 177; refine C32.out.mono ?_; rintro e w5 ⟨rfl, hu5, hb5, _⟩
             have hb05 := hbr.trans hb5
             have CJ := hid (CI.out w5 hu5 hb05))
          | (go_at_call 147; refine CJ.out.mono ?_; rintro e w6 ⟨rfl, hu6, hb6⟩)
        go_roundw
        case rel =>
          refine ⟨j + 1, by omega, by go_num, ?_, hb05.trans hb6⟩
          rw [STEP.out, ← ByteArray.append_assoc, ← ByteArray.append_assoc]
          exact hu6
        case measure => simp [intOf]; omega
    · have hjn : ¬ (j : Int) < x.ks.length := by omega
      obtain rfl : j = x.ks.length := by omega
      rw [List.take_of_length_le (Nat.le_refl _)] at hur
      have CZ := hid (CE.out wr _ hur (by rw [ByteArray.size_append]; omega) (by omega))
      clear hmono hLL hur
      go_wp2_with (go_at_call 177; refine CZ.out.mono ?_; rintro e w3 ⟨rfl, hu3, hb3, _⟩)
      go_end0
      refine ⟨rfl, ?_, hbr.trans hb3⟩
      rw [FIN.out, ByteArray.append_assoc] at hu3
      exact hu3
end
end Go.Proofs.YtabogkonklplcaaGreatDoor

namespace Go.Proofs.YtabogkonklplcaaGreatDoor
open Go.RowKit
set_option linter.unusedSimpArgs false
set_option linter.unusedVariables false
theorem rows_round {P : Program} {row : String} {args : Array Value} {w : World} {R : Value → World → Prop} (l n : Nat) (h : Rows P row args w R) : RowsIn (Fence.wide.inRound l) n P row args w R :=
  fun c cs _ => let ⟨v, w', r, s⟩ := h c cs; ⟨v, w', r, stepsIn_wide.2 s⟩
theorem upon_round {P : Program} {o : Oper} {a : Act} {K K' : Act → World → Prop} {Q : Exit → Act → World → Prop} (l n : Nat) (hK : ∀ a w, K a w → K' a w) (r : Result Next) (h : o.upon P a K Q r) : o.uponIn (Fence.wide.inRound l) n P a K' Q r := by
  cases r with
  | ok x w' =>
    cases x with
    | value v => exact hK _ _ h
    | skip => exact hK _ _ h
    | defer d => exact hK _ _ h
    | enter f args =>
      refine ⟨fun e => (by simp [Fence.wide, Fence.inRound] at e), CallsIn.inRound l ((callsIn_wide.2 h).mono ?_)⟩
      intro e w'' he
      cases e with
      | returned v => exact hK _ _ he
      | panicked c => exact he
      | outgrown => exact he
    | row r args => exact ⟨fun e => (by simp [Fence.wide, Fence.inRound] at e), (rows_round l _ h).mono (fun _ _ he => hK _ _ he)⟩
    | _ => exact h.elim
  | halt x w' =>
    cases x with
    | panic v => exact h
    | _ => exact h.elim
def noDefer (ops : Array Oper) : Bool := ops.all fun o => match o.op with | .defer _ => false | _ => true
theorem noDefer_at {ops : Array Oper} (h : noDefer ops = true) {i : Nat} {o : Oper} (ho : ops[i]? = some o) : ∀ c, o.op ≠ .defer c := by
  intro c e
  have h1 := Array.all_eq_true'.1 h o (Array.mem_of_getElem? ho)
  rw [e] at h1
  simp at h1
section
variable {P : Program} {md : Region.Mode} {ops : Array Oper} {Q : Exit → Act → World → Prop}
theorem any_round (l n : Nat) (hd : noDefer ops = true) (hQ : ¬ LetsOut Q) : ∀ (fuel : Nat) (listed : Array Bool) (a : Act) (w : World), wpAny P md ops Q fuel listed a w → wpAnyIn (Fence.wide.inRound l) n P md ops Q fuel listed a w
  | 0, _, _, _, h => h
  | fuel + 1, listed, a, w, h => by
    refine ⟨h.1, fun i hi => ?_⟩
    have h1 := h.2 i hi
    unfold wpOp at h1
    unfold wpOpIn
    cases ho : ops[i]? with
    | none =>
      rw [ho] at h1
      exact any_round l n hd hQ fuel _ _ _ h1
    | some o =>
      rw [ho] at h1
      simp only at h1 ⊢
      split
      · rename_i hw
        rw [if_pos hw] at h1
        rcases h1 with h1 | h1
        · refine ⟨fun _ _ => trivial, ?_⟩
          have e : o.semAt (Fence.wide.inRound l).round a.eval = execOp a.eval o := Oper.semAt_some l a.eval o (noDefer_at hd ho)
          rw [e]
          exact upon_round l n (fun a w h => any_round l n hd hQ fuel _ a w h) _ h1
        · exact absurd h1.2 hQ
      · rename_i hw
        rw [if_neg hw] at h1
        exact ⟨fun _ _ => trivial, any_round l n hd hQ fuel _ _ _ h1⟩
theorem region_round {id l n : Nat} {a : Act} {w : World} (S : World → Prop) (hm : P.follows .mixedOrders = true) (hd : noDefer ops = true) (hQ : ¬ LetsOut Q) (hS : S w.drew)
    (h : S w.drew → wpAnyH P .any ops Q S ops.size (Array.replicate ops.size false) a w.drew) : (Code.region id ops true).wpIn (Fence.wide.inRound l) n P Q a w :=
  wpIn_region_any hm (any_round l n hd hQ _ _ _ _ (wpAny_of_held _ _ _ _ (h hS)))
theorem take_to {S : World → Prop} {i : Nat} {oi : Oper} (d : Tmp) {v : Value} {fuel : Nat} {listed : Array Bool} {T : Array Value} {D : List Deferred} {w : World} (hi : ops[i]? = some oi) (hdst : oi.dst = some d)
    (hs : Region.noSelect ops = true) (hf : Region.free md ops listed i = true) (hr : (Region.ready md ops listed).contains i = true)
    (hQ : ∀ c a w, Q (.panic c) (a.put oi.dst v) w → Q (.panic c) a w) (hy : YieldsIf P ops S oi v (Act.mk T D)) (hS : S w)
    (h : wpAnyH P md ops Q S fuel (listed.setIfInBounds i true) (Act.mk (T.setIfInBounds d v) D) w) : wpAnyH P md ops Q S (fuel + 1) listed (Act.mk T D) w :=
  wpAnyH_take hi hs hf hr hQ hy hS (by rw [hdst]; exact h)
end
end Go.Proofs.YtabogkonklplcaaGreatDoor
