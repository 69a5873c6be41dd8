import Derived.Test.YtabogkonklplcaaGreatDoorF17
import Derived.Laws.AppendOwnNone
import Derived.Test.YtabogkonklplcaaGreatDoorF07
import Derived.Test.YtabogkonklplcaaGreatDoorF03
import Derived.Test.YtabogkonklplcaaGreatDoorF11
import Derived.Test.YtabogkonklplcaaGreatDoorF13
import Derived.Deep.RegionLaw
import Derived.Deep.RegionWith
import Derived.Deep.Cut
import Derived.Deep.CutRange

/- append of a row that may be nil, as one law: at a list of operations, and at a step of a region that draws. -/
namespace Go.Proofs.YtabogkonklplcaaGreatDoor
open Go.RowKit
set_option linter.unusedSimpArgs false
set_option linter.unusedVariables false

/-- What is appended: nil, or cells that lie there. -/
def SrcOk (w : World) (size : Nat) (xv : Value) (m : Nat) (news : List Value) : Prop :=
  (xv = .slice none 0 0 ∧ m = 0 ∧ news = []) ∨ ∃ ad c, xv = .slice (some ad) m c ∧ news.length = m * size ∧ (∀ j u, news[j]? = some u → w.cell? (ad.add j) = some u) ∧ ∀ u ∈ news, u.oneCell' = true

theorem SrcOk.of_row {w : World} {B : Nat} {e : TypeId} {n : Nat} {v : Value} {xs : List Value} (h : w.ownsRow B e 1 v n xs) (h1 : ∀ u ∈ xs, u.oneCell' = true) : SrcOk w 1 v n xs := by
  have h' := h
  obtain ⟨hl, h2⟩ := h
  rcases h2 with ⟨e1, e2⟩ | ⟨g, c', cur, e1, _, hh, _, _, _, ht⟩
  · subst e2
    exact .inl ⟨e1, rfl, List.length_eq_zero_iff.1 (by omega)⟩
  · refine .inr ⟨_, _, e1, by omega, fun j u hu => ?_, h1⟩
    rw [Addr.add_lit, Nat.zero_add, cell_of_heap hh, ← Array.getElem?_toList]
    rw [← ht, List.getElem?_take] at hu
    split at hu
    · exact hu
    · cases hu

theorem wp_append_any {P : Program} (w : World) {o : Oper} {a : Act} {K : Act → World → Prop} {Q : Exit → Act → World → Prop} (s x : Operand) (t : TypeId)
    (ho : o.op = .call { callee := .builtin .append, args := #[s, x], argTypes := #[t, t] })
    (base : Nat) (e : TypeId) (i : TypeInfo) (z : Value) (size bytes : Nat) (ht : P.underlying t = some (.slice e)) (hi : P.info? e = some i) (hz : i.zero = some z)
    (hsize : i.size = size) (hby : i.bytes = bytes) (hzs : z.cells.size = size) (hsz : 0 < size)
    (v : Value) (n : Nat) (xs : List Value) (hs : a.eval s = v) (hown : w.ownsRow base e size v n xs)
    (xv : Value) (m : Nat) (news : List Value) (hx : a.eval x = xv) (hsrc : SrcOk w size xv m news)
    (h63 : n + m ≤ maxLen) (hbytes : (n + m) * bytes ≤ 140737488355328) (hbase : base ≤ w.heap.size)
    (h : ∀ v' w', w'.ownsRow base e size v' (n + m) (xs ++ news) → Below base w w' → K (a.put o.dst v') w') : o.wp P a w K Q := by
  rcases hsrc with ⟨rfl, rfl, rfl⟩ | ⟨ad, c, rfl, hl, hn, h1⟩
  · have hrun := run_append_owned_none (P := P) (w := w) base t o.type e i size ht hi v n xs hown
    unfold Oper.wp
    simp [execOp, ho, resolve, invoke, builtin, hs, hx, hrun, Result.andThen]
    exact h v w (by simpa using hown) (Below.refl _ w)
  · exact wp_append_own w s x t ho base e i z size bytes ht hi hz hsize hby hzs hsz v n xs hs hown ad m c news hx hl hn h1 h63 hbytes hbase
      (fun v' w' h2 h3 _ => h v' w' h2 ((Below.refl base w).grown h3 hbase (fun k e => (hown.lt k e).1)))

theorem wpList_append_any {P : Program} (w : World) {ops : Array Oper} {rest : List Oper} {o : Oper} {a : Act} {Q : Exit → Act → World → Prop} (hgd : o.guard = none) (s x : Operand) (t : TypeId)
    (ho : o.op = .call { callee := .builtin .append, args := #[s, x], argTypes := #[t, t] })
    (base : Nat) (e : TypeId) (i : TypeInfo) (z : Value) (size bytes : Nat) (ht : P.underlying t = some (.slice e)) (hi : P.info? e = some i) (hz : i.zero = some z)
    (hsize : i.size = size) (hby : i.bytes = bytes) (hzs : z.cells.size = size) (hsz : 0 < size)
    (v : Value) (n : Nat) (xs : List Value) (hs : a.eval s = v) (hown : w.ownsRow base e size v n xs)
    (xv : Value) (m : Nat) (news : List Value) (hx : a.eval x = xv) (hsrc : SrcOk w size xv m news)
    (h63 : n + m ≤ maxLen) (hbytes : (n + m) * bytes ≤ 140737488355328) (hbase : base ≤ w.heap.size)
    (h : ∀ v' w', w'.ownsRow base e size v' (n + m) (xs ++ news) → Below base w w' → wpList P ops Q rest (a.put o.dst v') w') : wpList P ops Q (o :: rest) a w :=
  wpList_plain hgd fun _ hK => wp_append_any w s x t ho base e i z size bytes ht hi hz hsize hby hzs hsz v n xs hs hown xv m news hx hsrc h63 hbytes hbase fun v' w' h2 h3 => hK _ _ (h v' w' h2 h3)

theorem step_append_any {P : Program} (w : World) {ops : Array Oper} {o : Oper} {a : Act} {K : Act → World → Prop} {Q : Exit → Act → World → Prop} {E : Prop} (hgd : o.guard = none) (s x : Operand) (t : TypeId)
    (ho : o.op = .call { callee := .builtin .append, args := #[s, x], argTypes := #[t, t] })
    (base : Nat) (e : TypeId) (i : TypeInfo) (z : Value) (size bytes : Nat) (ht : P.underlying t = some (.slice e)) (hi : P.info? e = some i) (hz : i.zero = some z)
    (hsize : i.size = size) (hby : i.bytes = bytes) (hzs : z.cells.size = size) (hsz : 0 < size)
    (v : Value) (n : Nat) (xs : List Value) (hs : a.eval s = v) (hown : w.ownsRow base e size v n xs)
    (xv : Value) (m : Nat) (news : List Value) (hx : a.eval x = xv) (hsrc : SrcOk w size xv m news)
    (h63 : n + m ≤ maxLen) (hbytes : (n + m) * bytes ≤ 140737488355328) (hbase : base ≤ w.heap.size)
    (h : ∀ v' w', w'.ownsRow base e size v' (n + m) (xs ++ news) → Below base w w' → K (a.put o.dst v') w') :
    if Region.wanted o (yielded ops a.tmps) = true then Oper.wp P o a w K Q else E := by
  have hw : Region.wanted o (yielded ops a.tmps) = true := by simp [Region.wanted, hgd]
  rw [if_pos hw]
  exact wp_append_any w s x t ho base e i z size bytes ht hi hz hsize hby hzs hsz v n xs hs hown xv m news hx hsrc h63 hbytes hbase h

end Go.Proofs.YtabogkonklplcaaGreatDoor

/- marginref's replace. -/
namespace Go.Proofs.YtabogkonklplcaaGreatDoor
open Go.RowKit
set_option linter.unusedSimpArgs false
set_option linter.unusedVariables false

section
variable {w : World} {F : Nat → Prop} {bd bn cap : Nat} {rn : List RN} {rv : Value} {s : List Nd} {rs : List Sp}

/-- A node's characters are new ones, in blocks from N on. -/
theorem RDocAt.newChars (h : RDocAt w F bd bn cap rn rv s rs) {N i : Nat} {x : Nd} {v' : Value} {cs' : List ByteArray} (hF : ∀ b, F b → b < N) (hx : s[i]? = some x) (hrow : w.ownsRow N 9 1 v' cs'.length (strsV cs')) :
    ∃ rn2, RDocAt (w.setCell ⟨bn, i * 4 + 1, none⟩ v') (fun b => F b ∨ N ≤ b) bd bn cap rn2 rv (s.set i { x with cs := cs' }) rs := by
  obtain ⟨r, hr, ho⟩ := h.raw hx
  have hw := h.wider (G := fun b => F b ∨ N ≤ b) (fun b e => .inl e)
  have ho2 := hw.ok i r x hr hx
  have hb := fun b e => (hrow.lt b e).1
  have h0 : w.ownsRow 0 9 1 v' cs'.length (strsV cs') := by
    refine ⟨hrow.1, ?_⟩
    rcases hrow.2 with e | ⟨g, c, cur, e, _, q⟩
    · exact .inl e
    · exact .inr ⟨g, c, cur, e, Nat.zero_le _, q⟩
  refine ⟨_, hw.setNode (r' := { r with cv := v' }) hr hx 1 (by omega) v' rfl ⟨ho2.t, ho2.p, h0, ho2.kids, fun b e => ?_, ho2.apartK⟩⟩
  have h1 := hb b e
  have h2 := hF _ h.Fd
  have h3 := hF _ h.Fn
  refine ⟨.inr h1, by omega, by omega, fun e2 => ?_⟩
  have h4 := hF _ (h.apart b e2).1
  omega

theorem Tryz.elem107 : Tryz.prog.elem 107 = 9 := by kernel_rfl

theorem strsV_one (l : List ByteArray) : ∀ u ∈ strsV l, u.oneCell' = true := by
  intro u hu
  obtain ⟨b, _, rfl⟩ := List.mem_map.1 hu
  rfl

set_option maxRecDepth 20000 in
set_option maxHeartbeats 2000000 in
theorem replace_some (hD : RDocAt w F bd bn cap rn rv s []) (n k c : Nat) (x : Nd) (hx : s[n]? = some x) (hlen : x.cs.length ≤ 30) (r : RN) (hr : rn[n]? = some r) (g cc : Nat) (hcv : r.cv = .slice (some ⟨g, 0, none⟩) x.cs.length cc) (hk : k + c ≤ x.cs.length) (bv : Value) (lb : List ByteArray) (hbig : lb.length < lots) (hby : w.ownsRow 0 9 1 bv lb.length (strsV lb)) :
    Calls Tryz.prog 125 #[.pointer (some ⟨bd, 0, none⟩), .int .i64 n, .int .i64 k, .int .i64 c, bv] w fun e w' => e = .returned (.tuple #[]) ∧ Keeps F w w' ∧
      RDoc w' (fun b => F b ∨ w.heap.size ≤ b) bd (s.set n { x with cs := x.cs.take k ++ lb ++ x.cs.drop (k + c) }) [] := by
  obtain ⟨i0, hi, hz0, hz1, hz2⟩ := info_parts Tryz.info9
  have hn : n < s.length := (List.getElem?_eq_some_iff.1 hx).1
  unfold lots at hbig
  have h0 := hD.nodesCell
  have hlt := hD.lt
  obtain ⟨r', hr', ho, -, hc1, -, -⟩ := hD.look hx
  obtain rfl : r' = r := Option.some.inj (hr'.symm.trans hr)
  have hrow := ho.chars
  rw [hcv] at hc1 hrow
  have hcap := row_cap hrow
  have hkc : k ≤ cc := by omega
  have hkI : (k : Int) + c ≤ 30 := by omega
  obtain ⟨ad, hsl, hsrc⟩ := slice_from Tryz.underlying107 Tryz.elem107 Tryz.sizeOf9 hrow (k + c) hk
  have ec : (((k + c : Nat)) : Int) = (k : Int) + (c : Int) := by omega
  rw [ec] at hsl
  have src1 : SrcOk w 1 (.slice (some ⟨g, 0, none⟩) k cc) k (strsV (x.cs.take k)) := .inr ⟨_, _, rfl, by simp; omega, part_cells hrow 0 (ys := strsV (x.cs.take k)) (by intro j u hu; simp only [strsV, List.map_take] at hu ⊢; rw [List.getElem?_take] at hu; split at hu <;> simp_all), strsV_one _⟩
  have S1 := hid src1
  have HBY := hid hby
  have HSRC := hid hsrc
  have HROW := hid hrow
  have HD := hid hD
  have HX := hid hx
  obtain ⟨ra, rc, hrve⟩ : ∃ a c, rv = .slice a 0 c := slice_shape hD.ranges
  have hrv := hD.rangesCell
  rw [hrve] at hrv
  clear hD hr ho hrow hsrc hby src1 ec hx hcv
  go_enter Tryz.func125, Tryz.ntmps125
  go_wp2_with (first
    | (at_builtin; refine wpList_append_any _ rfl (.tmp 21) (.tmp 24) 107 rfl w.heap.size 9 i0 (.string ByteArray.empty) 1 16 Tryz.underlying107 hi hz0 hz1 hz2 rfl (by decide) (.slice none 0 0) 0 [] rfl (World.ownsRow_nil _ _ _ _) _ k _ rfl S1.out (by unfold maxLen; omega) (by omega) (Nat.le_refl _) ?_
       intro v1 w1 ho1 hb1
       have HO1 := hid ho1
       have HB1 := hid hb1
       clear ho1 hb1)
    | (at_builtin; refine wpList_append_any _ rfl (.tmp 26) (.tmp 27) 107 rfl w.heap.size 9 i0 (.string ByteArray.empty) 1 16 Tryz.underlying107 hi hz0 hz1 hz2 rfl (by decide) v1 _ _ rfl HO1.out bv lb.length _ rfl (SrcOk.of_row ((Keeps.of_below (F := fun _ => False) HB1.out).row HBY.out (fun _ _ e => e)) (strsV_one _)) (by unfold maxLen; omega) (by omega) HB1.out.size ?_
       intro v2 w2 ho2 hb2
       have hb2' := HB1.out.trans hb2
       have d0 := (hb2'.cell (p := ⟨bd, 0, none⟩) hlt.1).trans h0
       have dr := (hb2'.cell (p := ⟨bd, 1, none⟩) hlt.1).trans hrv
       have dc1 := (hb2'.cell (p := ⟨bn, n * 4 + 1, none⟩) hlt.2).trans hc1
       have HO2 := hid ho2
       have HB2 := hid hb2'
       clear ho2 hb2 hb2'))
  have hrw2 := (Keeps.of_below (F := fun _ => False) HB2.out).row HROW.out (fun _ _ e => e)
  have S3 : Hid (SrcOk w2.drew 1 (.slice (some ad) (x.cs.length - (k + c)) (cc - (k + c))) (x.cs.length - (k + c)) ((strsV x.cs).drop (k + c))) :=
    .inr ⟨_, _, rfl, by simp, HSRC.out w2.drew hrw2.drew, fun u hu => strsV_one x.cs u (List.mem_of_mem_drop hu)⟩
  have HO2d : Hid (w2.drew.ownsRow w.heap.size 9 1 v2 (k + lb.length) (strsV (x.cs.take k) ++ strsV lb)) := by
    have := HO2.out.drew
    rw [Nat.zero_add, List.nil_append] at this
    exact this
  have HF := hid (fun w3 (hB : Below w.heap.size w w3) => (HD.out.below hB).nodes.frozenAt (n * 4 + 1))
  have HB2d := hid (HB2.out.drew)
  have q1 : IntKind.i64.wrap ((k : Int) + (c : Int)) = (k : Int) + (c : Int) := by
    rw [IntKind.wrap_i64]; omega
  have hne2 : ¬ bd = bn := HD.out.ne
  have hne3 : ¬ bn = bd := fun e => HD.out.ne e.symm
  have q6 : (k : Int) + (c : Int) ≤ (x.cs.length : Int) := by omega
  have q7 : (0 : Int) ≤ (k : Int) + (c : Int) := by omega
  clear hrw2 HROW HSRC HO2 HO1 HB1 S1 HBY
  go_region_held3 (fun w' => w'.cell? ⟨bd, 0, none⟩ = some (.slice (some ⟨bn, 0, none⟩) s.length cap)) (first | exact f0 | go_keep) ((
    refine step_append_any _ rfl (.tmp 34) (.tmp 39) 107 rfl w.heap.size 9 i0 (.string ByteArray.empty) 1 16 Tryz.underlying107 hi hz0 hz1 hz2 rfl (by decide) v2 (k + lb.length) _ (by simp [Act.eval, Act.put]) HO2d.out (.slice (some ad) (x.cs.length - (k + c)) (cc - (k + c))) (x.cs.length - (k + c)) _ (by simp [Act.eval, Act.put]) S3.out (by unfold maxLen; omega) (by omega) HB2d.out.size ?_
    intro v3 w3 ho3 hb3
    obtain ⟨a3, c3, hv3⟩ := slice_shape ho3
    subst hv3
    have hB3 := HB2d.out.trans hb3
    have f0 := (hB3.cell (p := ⟨bd, 0, none⟩) hlt.1).trans h0
    have fr := (hB3.cell (p := ⟨bd, 1, none⟩) hlt.1).trans hrv
    have f1 := (hB3.cell (p := ⟨bn, n * 4 + 1, none⟩) hlt.2).trans hc1
    have ff := HF.out w3 hB3
    have HO3 := hid ho3
    have HB3 := hid hB3
    clear ho3 hb3 hB3))
  have gr : (w3.setCell ⟨bn, n * 4 + 1, none⟩ (.slice a3 (k + lb.length + (x.cs.length - (k + c))) c3)).cell? ⟨bd, 1, none⟩ = some (.slice ra 0 rc) := by
    unfold World.cell?
    rw [Below.heap_setCell _ _ _ _ (by simpa using hne2)]
    exact fr
  go_wp2
  go_rounds 1
  have hrow3 : w3.ownsRow w.heap.size 9 1 (.slice a3 (k + lb.length + (x.cs.length - (k + c))) c3) (x.cs.take k ++ lb ++ x.cs.drop (k + c)).length (strsV (x.cs.take k ++ lb ++ x.cs.drop (k + c))) := by
    have e1 : (x.cs.take k ++ lb ++ x.cs.drop (k + c)).length = k + lb.length + (x.cs.length - (k + c)) := by simp; omega
    have e2 : strsV (x.cs.take k ++ lb ++ x.cs.drop (k + c)) = strsV (x.cs.take k) ++ strsV lb ++ (strsV x.cs).drop (k + c) := by simp [strsV]
    rw [e1, e2]
    exact HO3.out
  obtain ⟨rn2, h3⟩ := (HD.out.narrow.below HB3.out).newChars (N := w.heap.size) (fun b e => e.2) HX.out hrow3
  go_end0
  refine ⟨rfl, (Keeps.of_below HB3.out).setCell (p := ⟨bn, n * 4 + 1, none⟩) (.inl HD.out.Fn) _, bn, cap, rn2, rv, h3.wider ?_⟩
  intro b hb
  rcases hb with hb | hb
  · exact .inl hb.1
  · exact .inr hb

set_option maxRecDepth 20000 in
set_option maxHeartbeats 2000000 in
theorem replace_nil (hD : RDocAt w F bd bn cap rn rv s []) (n k c : Nat) (hk0 : k = 0) (hc0 : c = 0) (x : Nd) (hx : s[n]? = some x) (hlen : x.cs.length ≤ 30) (r : RN) (hr : rn[n]? = some r) (hcv : r.cv = .slice none 0 0) (h0l : x.cs = []) (bv : Value) (lb : List ByteArray) (hbig : lb.length < lots) (hby : w.ownsRow 0 9 1 bv lb.length (strsV lb)) :
    Calls Tryz.prog 125 #[.pointer (some ⟨bd, 0, none⟩), .int .i64 n, .int .i64 k, .int .i64 c, bv] w fun e w' => e = .returned (.tuple #[]) ∧ Keeps F w w' ∧
      RDoc w' (fun b => F b ∨ w.heap.size ≤ b) bd (s.set n { x with cs := lb }) [] := by
  obtain ⟨i0, hi, hz0, hz1, hz2⟩ := info_parts Tryz.info9
  have hn : n < s.length := (List.getElem?_eq_some_iff.1 hx).1
  unfold lots at hbig
  have h0 := hD.nodesCell
  have hlt := hD.lt
  have hsl0 : ∀ w, (Instr.slice 107 (.slice none 0 0) none (some (.int .i64 (k : Int))) none).run Tryz.prog w = .ok (.slice none 0 0) w := fun w => by rw [hk0]; kernel_rfl
  have hsl : ∀ w, (Instr.slice 107 (.slice none 0 0) (some (.int .i64 ((k : Int) + (c : Int)))) none none).run Tryz.prog w = .ok (.slice none 0 0) w := fun w => by rw [hk0, hc0]; kernel_rfl
  have q1 : IntKind.i64.wrap ((k : Int) + (c : Int)) = (k : Int) + (c : Int) := by rw [hk0, hc0]; rfl
  obtain ⟨r', hr', ho, -, hc1, -, -⟩ := hD.look hx
  obtain rfl : r' = r := Option.some.inj (hr'.symm.trans hr)
  rw [hcv] at hc1
  have HBY := hid hby
  have HD := hid hD
  have HX := hid hx
  obtain ⟨ra, rc, hrve⟩ : ∃ a c, rv = .slice a 0 c := slice_shape hD.ranges
  have hrv := hD.rangesCell
  rw [hrve] at hrv
  clear hD hr ho hby hx hcv hk0 hc0
  go_enter Tryz.func125, Tryz.ntmps125
  go_wp2_with (first
    | (at_builtin; refine wpList_append_any _ rfl (.tmp 21) (.tmp 24) 107 rfl w.heap.size 9 i0 (.string ByteArray.empty) 1 16 Tryz.underlying107 hi hz0 hz1 hz2 rfl (by decide) (.slice none 0 0) 0 [] rfl (World.ownsRow_nil _ _ _ _) (.slice none 0 0) 0 [] rfl (.inl ⟨rfl, rfl, rfl⟩) (by unfold maxLen; omega) (by omega) (Nat.le_refl _) ?_
       intro v1 w1 ho1 hb1
       have HO1 := hid ho1
       have HB1 := hid hb1
       clear ho1 hb1)
    | (at_builtin; refine wpList_append_any _ rfl (.tmp 26) (.tmp 27) 107 rfl w.heap.size 9 i0 (.string ByteArray.empty) 1 16 Tryz.underlying107 hi hz0 hz1 hz2 rfl (by decide) v1 _ _ rfl HO1.out bv lb.length _ rfl (SrcOk.of_row ((Keeps.of_below (F := fun _ => False) HB1.out).row HBY.out (fun _ _ e => e)) (strsV_one _)) (by unfold maxLen; omega) (by omega) HB1.out.size ?_
       intro v2 w2 ho2 hb2
       have hb2' := HB1.out.trans hb2
       have d0 := (hb2'.cell (p := ⟨bd, 0, none⟩) hlt.1).trans h0
       have dr := (hb2'.cell (p := ⟨bd, 1, none⟩) hlt.1).trans hrv
       have dc1 := (hb2'.cell (p := ⟨bn, n * 4 + 1, none⟩) hlt.2).trans hc1
       have HO2 := hid ho2
       have HB2 := hid hb2'
       clear ho2 hb2 hb2'))
  have S3 : Hid (SrcOk w2.drew 1 (.slice none 0 0) 0 []) := .inl ⟨rfl, rfl, rfl⟩
  have HO2d : Hid (w2.drew.ownsRow w.heap.size 9 1 v2 lb.length (strsV lb)) := by
    have := HO2.out.drew
    rw [Nat.zero_add, List.nil_append, List.nil_append] at this
    exact this
  have HF := hid (fun w3 (hB : Below w.heap.size w w3) => (HD.out.below hB).nodes.frozenAt (n * 4 + 1))
  have HB2d := hid (HB2.out.drew)
  have hne2 : ¬ bd = bn := HD.out.ne
  have hne3 : ¬ bn = bd := fun e => HD.out.ne e.symm
  clear HO2 HO1 HB1 HBY
  go_region_held3 (fun w' => w'.cell? ⟨bd, 0, none⟩ = some (.slice (some ⟨bn, 0, none⟩) s.length cap)) (first | exact f0 | go_keep) ((
    refine step_append_any _ rfl (.tmp 34) (.tmp 39) 107 rfl w.heap.size 9 i0 (.string ByteArray.empty) 1 16 Tryz.underlying107 hi hz0 hz1 hz2 rfl (by decide) v2 lb.length _ (by simp [Act.eval, Act.put]) HO2d.out (.slice none 0 0) 0 [] (by simp [Act.eval, Act.put]) S3.out (by unfold maxLen; omega) (by omega) HB2d.out.size ?_
    intro v3 w3 ho3 hb3
    obtain ⟨a3, c3, hv3⟩ := slice_shape ho3
    subst hv3
    have hB3 := HB2d.out.trans hb3
    have f0 := (hB3.cell (p := ⟨bd, 0, none⟩) hlt.1).trans h0
    have fr := (hB3.cell (p := ⟨bd, 1, none⟩) hlt.1).trans hrv
    have f1 := (hB3.cell (p := ⟨bn, n * 4 + 1, none⟩) hlt.2).trans hc1
    have ff := HF.out w3 hB3
    have HO3 := hid ho3
    have HB3 := hid hB3
    clear ho3 hb3 hB3))
  have gr : (w3.setCell ⟨bn, n * 4 + 1, none⟩ (.slice a3 (lb.length + 0) c3)).cell? ⟨bd, 1, none⟩ = some (.slice ra 0 rc) := by
    unfold World.cell?
    rw [Below.heap_setCell _ _ _ _ (by simpa using hne2)]
    exact fr
  go_wp2
  go_rounds 1
  have hrow3 : w3.ownsRow w.heap.size 9 1 (.slice a3 (lb.length + 0) c3) lb.length (strsV lb) := by
    have := HO3.out
    rw [List.append_nil] at this
    exact this
  obtain ⟨rn2, h3⟩ := (HD.out.narrow.below HB3.out).newChars (N := w.heap.size) (fun b e => e.2) HX.out hrow3
  go_end0
  refine ⟨rfl, (Keeps.of_below HB3.out).setCell (p := ⟨bn, n * 4 + 1, none⟩) (.inl HD.out.Fn) _, bn, cap, rn2, rv, h3.wider ?_⟩
  intro b hb
  rcases hb with hb | hb
  · exact .inl hb.1
  · exact .inr hb

theorem replace_any (hD : RDocAt w F bd bn cap rn rv s []) (n k c : Nat) (x : Nd) (hx : s[n]? = some x) (hlen : x.cs.length ≤ 30) (hk : k + c ≤ x.cs.length) (bv : Value) (lb : List ByteArray) (hbig : lb.length < lots) (hby : w.ownsRow 0 9 1 bv lb.length (strsV lb)) :
    Calls Tryz.prog 125 #[.pointer (some ⟨bd, 0, none⟩), .int .i64 n, .int .i64 k, .int .i64 c, bv] w fun e w' => e = .returned (.tuple #[]) ∧ Keeps F w w' ∧
      RDoc w' (fun b => F b ∨ w.heap.size ≤ b) bd (s.set n { x with cs := x.cs.take k ++ lb ++ x.cs.drop (k + c) }) [] := by
  obtain ⟨r, hr, ho⟩ := hD.raw hx
  rcases row_cases ho.chars with ⟨hv, h0⟩ | ⟨g, cc, hgv⟩
  · have h0l : x.cs = [] := List.length_eq_zero_iff.1 h0
    have hk0 : k = 0 := by omega
    have hc0 : c = 0 := by omega
    have e : x.cs.take k ++ lb ++ x.cs.drop (k + c) = lb := by rw [h0l]; simp
    rw [e]
    exact replace_nil hD n k c hk0 hc0 x hx hlen r hr hv h0l bv lb hbig hby
  · exact replace_some hD n k c x hx hlen r hr g cc hgv hk bv lb hbig hby
end
end Go.Proofs.YtabogkonklplcaaGreatDoor

/- marginref's Replace. -/
namespace Go.Proofs.YtabogkonklplcaaGreatDoor
open Go.RowKit
set_option linter.unusedSimpArgs false
set_option linter.unusedVariables false

abbrev one0 (w : World) : World := w.alloc (.cells #[.int .i64 0, .int .i64 0] 32)
theorem one0_below (w : World) : Below w.heap.size w (one0 w) := (Below.refl _ w).alloc (Nat.le_refl _) _

section
variable {w : World} {F : Nat → Prop} {bd bn cap : Nat} {rn : List RN} {rv : Value} {s : List Nd} {rs : List Sp}

set_option maxRecDepth 20000 in
set_option maxHeartbeats 1000000 in
theorem rreplace_unfit (n k c : Int) (t : ByteArray) (f0 f1 : Int) (h1 : f1 ≠ 0) (hT : Calls Tryz.prog 123 #[.pointer (some ⟨bd, 0, none⟩), .int .i64 n, .int .i64 k] (one0 w) fun e w' => e = .returned (rfltV f0 f1) ∧ Below (one0 w).heap.size (one0 w) w') :
    Calls Tryz.prog 78 #[.pointer (some ⟨bd, 0, none⟩), .int .i64 n, .int .i64 k, .int .i64 c, .string t] w fun e w' => e = .returned (rfltV f0 f1) ∧ Below w.heap.size w w' := by
  have CF := hid hT
  have h1b : (f1 == 0) = false := by simpa using h1
  have HTB := hid (one0_below w)
  clear hT h1
  go_enter Tryz.func78, Tryz.ntmps78
  go_wp2_with (first
    | (go_at_call 123; refine CF.out.mono ?_; rintro e w1 ⟨rfl, hb1⟩
       have hq2 : w1.heap[w.heap.size]? = some (.cells #[.int .i64 0, .int .i64 0] 32 (0, 0)) := by
         rw [hb1.block _ (by simp)]
         exact heap_alloc_new w _
       have hs1 : w.heap.size + 1 ≤ w1.heap.size := by have := hb1.size; simpa using this
       have HB1 := hid (HTB.out.trans (hb1.mono HTB.out.size))
       have HQ2 := hid hq2
       clear hb1 hq2)
    | (go_at_call 124; refine (fine_any f0 f1 _).mono ?_; rintro e w2 ⟨rfl, hb2⟩
       have hf2 : w2.heap[w1.heap.size]? = some (.cells #[.int .i64 f0, .int .i64 f1] 32 (0, 0)) := (hb2.block _ (by simp)).trans (heap_alloc_new w1 _)
       have hz2 : w2.heap[w.heap.size]? = some (.cells #[.int .i64 0, .int .i64 0] 32 (0, 0)) :=
         (hb2.block _ (by simp; omega)).trans ((((Below.refl _ w1).alloc (Nat.le_refl _) _).block _ (by omega)).trans HQ2.out)
       have cf0 : w2.cell? ⟨w1.heap.size, 0, none⟩ = some (.int .i64 f0) := cell_of_heap hf2 0
       have cf1 : w2.cell? ⟨w1.heap.size, 1, none⟩ = some (.int .i64 f1) := cell_of_heap hf2 1
       have cz0 : w2.cell? ⟨w.heap.size, 0, none⟩ = some (.int .i64 0) := cell_of_heap hz2 0
       have cz1 : w2.cell? ⟨w.heap.size, 1, none⟩ = some (.int .i64 0) := cell_of_heap hz2 1
       have fz0 := frozen_of_heap hz2 0
       have fz1 := frozen_of_heap hz2 1
       have HB2 := hid ((HB1.out.alloc HB1.out.size _).trans (hb2.mono (Nat.le_trans HB1.out.size (by simp))))
       have hs2 : w.heap.size + 1 ≤ w2.heap.size := by have := hb2.size; simp at this; omega
       clear hb2 hf2
       skip
       rw [h1b]))
  refine bodyPost_ret (v := rfltV f0 f1) (by simp [results, Tryz.results78, go_sem, *]) rfl ?_
  exact ⟨rfl, (HB2.out.setCell (p := ⟨w.heap.size, 0, none⟩) (Nat.le_refl _) _).setCell (p := ⟨w.heap.size, 1, none⟩) (Nat.le_refl _) _⟩

set_option maxRecDepth 20000 in
set_option maxHeartbeats 1000000 in
theorem rreplace_count (n k c : Int) (t : ByteArray) (hc : c < 0) (hT : Calls Tryz.prog 123 #[.pointer (some ⟨bd, 0, none⟩), .int .i64 n, .int .i64 k] (one0 w) fun e w' => e = .returned (rfltV 0 0) ∧ Below (one0 w).heap.size (one0 w) w') :
    Calls Tryz.prog 78 #[.pointer (some ⟨bd, 0, none⟩), .int .i64 n, .int .i64 k, .int .i64 c, .string t] w fun e w' => e = .returned (rfltV n 3) ∧ Below w.heap.size w w' := by
  have CF := hid hT
  have h1b : ((0 : Int) == 0) = true := rfl
  have hcb : decide (c < 0) = true := decide_eq_true hc
  have HTB := hid (one0_below w)
  clear hT
  go_enter Tryz.func78, Tryz.ntmps78
  go_wp2_with (first
    | (go_at_call 123; refine CF.out.mono ?_; rintro e w1 ⟨rfl, hb1⟩
       have hq2 : w1.heap[w.heap.size]? = some (.cells #[.int .i64 0, .int .i64 0] 32 (0, 0)) := by
         rw [hb1.block _ (by simp)]
         exact heap_alloc_new w _
       have hs1 : w.heap.size + 1 ≤ w1.heap.size := by have := hb1.size; simpa using this
       have HB1 := hid (HTB.out.trans (hb1.mono HTB.out.size))
       have HQ2 := hid hq2
       clear hb1 hq2)
    | (go_at_call 124; refine (fine_any 0 0 _).mono ?_; rintro e w2 ⟨rfl, hb2⟩
       have hf2 : w2.heap[w1.heap.size]? = some (.cells #[.int .i64 0, .int .i64 0] 32 (0, 0)) := (hb2.block _ (by simp)).trans (heap_alloc_new w1 _)
       have hz2 : w2.heap[w.heap.size]? = some (.cells #[.int .i64 0, .int .i64 0] 32 (0, 0)) :=
         (hb2.block _ (by simp; omega)).trans ((((Below.refl _ w1).alloc (Nat.le_refl _) _).block _ (by omega)).trans HQ2.out)
       have cf0 : w2.cell? ⟨w1.heap.size, 0, none⟩ = some (.int .i64 0) := cell_of_heap hf2 0
       have cf1 : w2.cell? ⟨w1.heap.size, 1, none⟩ = some (.int .i64 0) := cell_of_heap hf2 1
       have cz0 : w2.cell? ⟨w.heap.size, 0, none⟩ = some (.int .i64 0) := cell_of_heap hz2 0
       have cz1 : w2.cell? ⟨w.heap.size, 1, none⟩ = some (.int .i64 0) := cell_of_heap hz2 1
       have fz0 := frozen_of_heap hz2 0
       have fz1 := frozen_of_heap hz2 1
       have HB2 := hid ((HB1.out.alloc HB1.out.size _).trans (hb2.mono (Nat.le_trans HB1.out.size (by simp))))
       have hs2 : w.heap.size + 1 ≤ w2.heap.size := by have := hb2.size; simp at this; omega
       clear hb2 hf2
       have HZ := hid hz2
       clear hz2
       rw [h1b])
    | (go_at_call 48; refine (no_any _ _ _).mono ?_; rintro e w5 ⟨rfl, hw5⟩
       have hz5 : w5.heap[w.heap.size]? = some (.cells #[.int .i64 0, .int .i64 0] 32 (0, 0)) := by rw [hw5]; exact (Below.heap_alloc _ _ _ (heap_lt HZ.out)).trans HZ.out
       have cz5 : w5.cell? ⟨w.heap.size, 0, none⟩ = some (.int .i64 0) := cell_of_heap hz5 0
       have cz6 : w5.cell? ⟨w.heap.size, 1, none⟩ = some (.int .i64 0) := cell_of_heap hz5 1
       have fz5 := frozen_of_heap hz5 0
       have fz6 := frozen_of_heap hz5 1
       have hs5 := heap_lt hz5
       have HB5 : Hid (Below w.heap.size w w5) := by rw [hw5]; exact HB2.out.alloc HB2.out.size _
       clear hz5 hw5))
  refine bodyPost_ret (v := rfltV n 3) (by simp [results, Tryz.results78, go_sem, *]) rfl ?_
  exact ⟨rfl, (HB5.out.setCell (p := ⟨w.heap.size, 0, none⟩) (Nat.le_refl _) _).setCell (p := ⟨w.heap.size, 1, none⟩) (Nat.le_refl _) _⟩

set_option maxRecDepth 20000 in
set_option maxHeartbeats 1000000 in
theorem rreplace_bad (hD : RDocAt w F bd bn cap rn rv s rs) (n k : Nat) (c : Int) (x : Nd) (hx : s[n]? = some x) (ht : x.t = true) (hlen : x.cs.length ≤ 30) (hk : k ≤ x.cs.length) (hc : 0 ≤ c) (t : ByteArray) (hts : t.size < lots) (h : charsOf t = none) :
    Calls Tryz.prog 78 #[.pointer (some ⟨bd, 0, none⟩), .int .i64 n, .int .i64 k, .int .i64 c, .string t] w fun e w' => e = .returned (rfltV n 6) ∧ Below w.heap.size w w' := by
  have hn : n < s.length := (List.getElem?_eq_some_iff.1 hx).1
  have CF := hid (textFits_ok (hD.below (one0_below w)) n k x hx ht hk)
  have h1b : ((0 : Int) == 0) = true := rfl
  have h0 := hD.nodesCell
  have hlt := hD.lt
  obtain ⟨r, hr, ho, -, hc1, -, -⟩ := hD.look hx
  obtain ⟨ca, cc, hcv⟩ := slice_shape ho.chars
  rw [hcv] at hc1
  have hcb : decide (c < 0) = false := decide_eq_false (by omega)
  have hkI : (k : Int) ≤ (x.cs.length : Int) := by omega
  have hlI : (x.cs.length : Int) ≤ 30 := by omega
  have HTB := hid (one0_below w)
  have HT := hid hts
  have HC := hid h
  clear hr ho hcv hx ht
  have key : ∀ cm : Nat, (c ≤ (x.cs.length : Int) - k ∧ (cm : Int) = c ∨ (x.cs.length : Int) - k < c ∧ (cm : Int) = (x.cs.length : Int) - k) → cm = (min c ((x.cs.length : Int) - k)).toNat := fun cm h => by omega
  by_cases hcm : (x.cs.length : Int) - k < c
  · have hcd : decide ((x.cs.length : Int) - k < c) = true := decide_eq_true hcm
    clear hD
    go_enter Tryz.func78, Tryz.ntmps78
    go_wp2_with (first
    | (go_at_call 123; refine CF.out.mono ?_; rintro e w1 ⟨rfl, hb1⟩
       have hq2 : w1.heap[w.heap.size]? = some (.cells #[.int .i64 0, .int .i64 0] 32 (0, 0)) := by
         rw [hb1.block _ (by simp)]
         exact heap_alloc_new w _
       have hs1 : w.heap.size + 1 ≤ w1.heap.size := by have := hb1.size; simpa using this
       have HB1 := hid (HTB.out.trans (hb1.mono HTB.out.size))
       have HQ2 := hid hq2
       clear hb1 hq2)
    | (go_at_call 124; refine (fine_any 0 0 _).mono ?_; rintro e w2 ⟨rfl, hb2⟩
       have hf2 : w2.heap[w1.heap.size]? = some (.cells #[.int .i64 0, .int .i64 0] 32 (0, 0)) := (hb2.block _ (by simp)).trans (heap_alloc_new w1 _)
       have hz2 : w2.heap[w.heap.size]? = some (.cells #[.int .i64 0, .int .i64 0] 32 (0, 0)) :=
         (hb2.block _ (by simp; omega)).trans ((((Below.refl _ w1).alloc (Nat.le_refl _) _).block _ (by omega)).trans HQ2.out)
       have cf0 : w2.cell? ⟨w1.heap.size, 0, none⟩ = some (.int .i64 0) := cell_of_heap hf2 0
       have cf1 : w2.cell? ⟨w1.heap.size, 1, none⟩ = some (.int .i64 0) := cell_of_heap hf2 1
       have cz0 : w2.cell? ⟨w.heap.size, 0, none⟩ = some (.int .i64 0) := cell_of_heap hz2 0
       have cz1 : w2.cell? ⟨w.heap.size, 1, none⟩ = some (.int .i64 0) := cell_of_heap hz2 1
       have fz0 := frozen_of_heap hz2 0
       have fz1 := frozen_of_heap hz2 1
       have HB2 := hid ((HB1.out.alloc HB1.out.size _).trans (hb2.mono (Nat.le_trans HB1.out.size (by simp))))
       have hs2 : w.heap.size + 1 ≤ w2.heap.size := by have := hb2.size; simp at this; omega
       clear hb2 hf2
       have d0 := (HB2.out.cell (p := ⟨bd, 0, none⟩) hlt.1).trans h0
       have dc1 := (HB2.out.cell (p := ⟨bn, n * 4 + 1, none⟩) hlt.2).trans hc1
       have HZ := hid hz2
       clear hz2 HQ2 HB1
       rw [h1b])
    | (go_at_call 115; refine (chars_no t _ HT.out HC.out).mono ?_; rintro e w3 ⟨rfl, hb3⟩
       have hz3 : w3.heap[w.heap.size]? = some (.cells #[.int .i64 0, .int .i64 0] 32 (0, 0)) := (hb3.block _ (heap_lt HZ.out)).trans HZ.out
       have cz0' : w3.cell? ⟨w.heap.size, 0, none⟩ = some (.int .i64 0) := cell_of_heap hz3 0
       have cz1' : w3.cell? ⟨w.heap.size, 1, none⟩ = some (.int .i64 0) := cell_of_heap hz3 1
       have fz0' := frozen_of_heap hz3 0
       have fz1' := frozen_of_heap hz3 1
       have hs3 : w.heap.size + 1 ≤ w3.heap.size := by have := hb3.size; omega
       have HB3 := hid (HB2.out.trans (hb3.mono HB2.out.size))
       have HZ3 := hid hz3
       clear hb3 hz3)
    | (go_at_call 48; refine (no_any _ _ _).mono ?_; rintro e w5 ⟨rfl, hw5⟩
       have hz5 : w5.heap[w.heap.size]? = some (.cells #[.int .i64 0, .int .i64 0] 32 (0, 0)) := by rw [hw5]; exact (Below.heap_alloc _ _ _ (heap_lt HZ3.out)).trans HZ3.out
       have cz5 : w5.cell? ⟨w.heap.size, 0, none⟩ = some (.int .i64 0) := cell_of_heap hz5 0
       have cz6 : w5.cell? ⟨w.heap.size, 1, none⟩ = some (.int .i64 0) := cell_of_heap hz5 1
       have fz5 := frozen_of_heap hz5 0
       have fz6 := frozen_of_heap hz5 1
       have hs5 := heap_lt hz5
       have HB5 : Hid (Below w.heap.size w w5) := by rw [hw5]; exact HB3.out.alloc HB3.out.size _
       clear hz5 hw5))
    clear CF h0 hc1 d0 dc1 cz0 cz1 fz0 fz1 cz0' cz1' fz0' fz1' cf0 cf1
    refine bodyPost_ret (v := rfltV n 6) (by simp [results, Tryz.results78, go_sem, cz5, cz6, fz5, fz6, hs5]) rfl ?_
    exact ⟨rfl, (HB5.out.setCell (p := ⟨w.heap.size, 0, none⟩) (Nat.le_refl _) _).setCell (p := ⟨w.heap.size, 1, none⟩) (Nat.le_refl _) _⟩
  · have hcd : decide ((x.cs.length : Int) - k < c) = false := decide_eq_false hcm
    clear hD
    go_enter Tryz.func78, Tryz.ntmps78
    go_wp2_with (first
    | (go_at_call 123; refine CF.out.mono ?_; rintro e w1 ⟨rfl, hb1⟩
       have hq2 : w1.heap[w.heap.size]? = some (.cells #[.int .i64 0, .int .i64 0] 32 (0, 0)) := by
         rw [hb1.block _ (by simp)]
         exact heap_alloc_new w _
       have hs1 : w.heap.size + 1 ≤ w1.heap.size := by have := hb1.size; simpa using this
       have HB1 := hid (HTB.out.trans (hb1.mono HTB.out.size))
       have HQ2 := hid hq2
       clear hb1 hq2)
    | (go_at_call 124; refine (fine_any 0 0 _).mono ?_; rintro e w2 ⟨rfl, hb2⟩
       have hf2 : w2.heap[w1.heap.size]? = some (.cells #[.int .i64 0, .int .i64 0] 32 (0, 0)) := (hb2.block _ (by simp)).trans (heap_alloc_new w1 _)
       have hz2 : w2.heap[w.heap.size]? = some (.cells #[.int .i64 0, .int .i64 0] 32 (0, 0)) :=
         (hb2.block _ (by simp; omega)).trans ((((Below.refl _ w1).alloc (Nat.le_refl _) _).block _ (by omega)).trans HQ2.out)
       have cf0 : w2.cell? ⟨w1.heap.size, 0, none⟩ = some (.int .i64 0) := cell_of_heap hf2 0
       have cf1 : w2.cell? ⟨w1.heap.size, 1, none⟩ = some (.int .i64 0) := cell_of_heap hf2 1
       have cz0 : w2.cell? ⟨w.heap.size, 0, none⟩ = some (.int .i64 0) := cell_of_heap hz2 0
       have cz1 : w2.cell? ⟨w.heap.size, 1, none⟩ = some (.int .i64 0) := cell_of_heap hz2 1
       have fz0 := frozen_of_heap hz2 0
       have fz1 := frozen_of_heap hz2 1
       have HB2 := hid ((HB1.out.alloc HB1.out.size _).trans (hb2.mono (Nat.le_trans HB1.out.size (by simp))))
       have hs2 : w.heap.size + 1 ≤ w2.heap.size := by have := hb2.size; simp at this; omega
       clear hb2 hf2
       have d0 := (HB2.out.cell (p := ⟨bd, 0, none⟩) hlt.1).trans h0
       have dc1 := (HB2.out.cell (p := ⟨bn, n * 4 + 1, none⟩) hlt.2).trans hc1
       have HZ := hid hz2
       clear hz2 HQ2 HB1
       rw [h1b])
    | (go_at_call 115; refine (chars_no t _ HT.out HC.out).mono ?_; rintro e w3 ⟨rfl, hb3⟩
       have hz3 : w3.heap[w.heap.size]? = some (.cells #[.int .i64 0, .int .i64 0] 32 (0, 0)) := (hb3.block _ (heap_lt HZ.out)).trans HZ.out
       have cz0' : w3.cell? ⟨w.heap.size, 0, none⟩ = some (.int .i64 0) := cell_of_heap hz3 0
       have cz1' : w3.cell? ⟨w.heap.size, 1, none⟩ = some (.int .i64 0) := cell_of_heap hz3 1
       have fz0' := frozen_of_heap hz3 0
       have fz1' := frozen_of_heap hz3 1
       have hs3 : w.heap.size + 1 ≤ w3.heap.size := by have := hb3.size; omega
       have HB3 := hid (HB2.out.trans (hb3.mono HB2.out.size))
       have HZ3 := hid hz3
       clear hb3 hz3)
    | (go_at_call 48; refine (no_any _ _ _).mono ?_; rintro e w5 ⟨rfl, hw5⟩
       have hz5 : w5.heap[w.heap.size]? = some (.cells #[.int .i64 0, .int .i64 0] 32 (0, 0)) := by rw [hw5]; exact (Below.heap_alloc _ _ _ (heap_lt HZ3.out)).trans HZ3.out
       have cz5 : w5.cell? ⟨w.heap.size, 0, none⟩ = some (.int .i64 0) := cell_of_heap hz5 0
       have cz6 : w5.cell? ⟨w.heap.size, 1, none⟩ = some (.int .i64 0) := cell_of_heap hz5 1
       have fz5 := frozen_of_heap hz5 0
       have fz6 := frozen_of_heap hz5 1
       have hs5 := heap_lt hz5
       have HB5 : Hid (Below w.heap.size w w5) := by rw [hw5]; exact HB3.out.alloc HB3.out.size _
       clear hz5 hw5))
    clear CF h0 hc1 d0 dc1 cz0 cz1 fz0 fz1 cz0' cz1' fz0' fz1' cf0 cf1
    refine bodyPost_ret (v := rfltV n 6) (by simp [results, Tryz.results78, go_sem, cz5, cz6, fz5, fz6, hs5]) rfl ?_
    exact ⟨rfl, (HB5.out.setCell (p := ⟨w.heap.size, 0, none⟩) (Nat.le_refl _) _).setCell (p := ⟨w.heap.size, 1, none⟩) (Nat.le_refl _) _⟩
end
end Go.Proofs.YtabogkonklplcaaGreatDoor

/- marginref's Range and Span. -/
namespace Go.Proofs.YtabogkonklplcaaGreatDoor
open Go.RowKit
set_option linter.unusedSimpArgs false
set_option linter.unusedVariables false

theorem spcells_get (rs : List Sp) (i : Nat) (x : Sp) (h : rs[i]? = some x) (j : Nat) (hj : j < 4) : (rs.flatMap Sp.cells)[i * 4 + j]? = x.cells[j]? := by
  induction rs generalizing i with
  | nil => simp at h
  | cons a l ih =>
    cases i with
    | zero =>
      simp at h; subst h
      rw [List.flatMap_cons, Nat.zero_mul, Nat.zero_add, List.getElem?_append_left (by simpa [Sp.cells] using hj)]
    | succ i =>
      have e : (i + 1) * 4 + j = (i * 4 + j) + 4 := by omega
      rw [e, List.flatMap_cons, List.getElem?_append_right (by simp [Sp.cells])]
      simpa [Sp.cells] using ih i (by simpa using h)

section
variable {w : World} {F : Nat → Prop} {bd bn cap : Nat} {rn : List RN} {rv : Value} {s : List Nd} {rs : List Sp}

set_option maxRecDepth 20000 in
set_option maxHeartbeats 1000000 in
theorem rranged_no (hD : RDocAt w F bd bn cap rn rv s rs) (r : Int) (h : r < 0 ∨ (rs.length : Int) ≤ r) :
    Calls Tryz.prog 131 #[.pointer (some ⟨bd, 0, none⟩), .int .i64 r] w fun e w' => e = .returned (rfltV r 8) ∧ Below w.heap.size w w' := by
  obtain ⟨ra, rc, hrve⟩ := slice_shape hD.ranges
  have hrv := hD.rangesCell
  rw [hrve] at hrv
  have hlt := hD.lt
  clear hD
  by_cases hn : r < 0
  · have d1 : decide (r < 0) = true := decide_eq_true hn
    go_enter Tryz.func131, Tryz.ntmps131
    go_wp2_with (go_at_call 48; refine (no_any _ _ _).mono ?_; rintro e w' ⟨rfl, rfl⟩)
    go_returns
    exact ⟨rfl, by go_grown⟩
  · have d1 : decide (r < 0) = false := decide_eq_false hn
    have d2 : decide ((rs.length : Int) ≤ r) = true := decide_eq_true (by omega)
    go_enter Tryz.func131, Tryz.ntmps131
    go_wp2_with (go_at_call 48; refine (no_any _ _ _).mono ?_; rintro e w' ⟨rfl, rfl⟩)
    go_returns
    exact ⟨rfl, by go_grown⟩

set_option maxRecDepth 20000 in
set_option maxHeartbeats 1000000 in
theorem rranged_ok (hD : RDocAt w F bd bn cap rn rv s rs) (r : Nat) (h : r < rs.length) :
    Calls Tryz.prog 131 #[.pointer (some ⟨bd, 0, none⟩), .int .i64 (r : Int)] w fun e w' => e = .returned (rfltV 0 0) ∧ Below w.heap.size w w' := by
  obtain ⟨ra, rc, hrve⟩ := slice_shape hD.ranges
  have hrv := hD.rangesCell
  rw [hrve] at hrv
  have hlt := hD.lt
  clear hD
  have d1 : decide ((r : Int) < 0) = false := decide_eq_false (by omega)
  have d2 : decide ((rs.length : Int) ≤ (r : Int)) = false := decide_eq_false (by omega)
  go_enter Tryz.func131, Tryz.ntmps131
  go_wp2
  go_returns
  exact ⟨rfl, by go_grown⟩
end
end Go.Proofs.YtabogkonklplcaaGreatDoor

/- marginref's Span. -/
namespace Go.Proofs.YtabogkonklplcaaGreatDoor
open Go.RowKit
set_option linter.unusedSimpArgs false
set_option linter.unusedVariables false

abbrev spV (x : Sp) : Value := .agg #[.int .i64 x.a, .int .i64 x.b, .int .i64 x.c, .int .i64 x.d]
abbrev sp0 (w : World) : World := (w.alloc (.cells #[.int .i64 0, .int .i64 0, .int .i64 0, .int .i64 0] 79)).alloc (.cells #[.int .i64 0, .int .i64 0] 32)
theorem sp0_below (w : World) : Below w.heap.size w (sp0 w) := ((Below.refl _ w).alloc (Nat.le_refl _) _).alloc (by simp) _
theorem sp0_cells {w w1 : World} (hb : Below (sp0 w).heap.size (sp0 w) w1) : w1.heap[w.heap.size]? = some (.cells #[.int .i64 0, .int .i64 0, .int .i64 0, .int .i64 0] 79 (0, 0)) ∧ w1.heap[w.heap.size + 1]? = some (.cells #[.int .i64 0, .int .i64 0] 32 (0, 0)) := by
  constructor
  · rw [hb.block _ (by simp; omega), Below.heap_alloc _ _ _ (by simp), heap_alloc_new]
  · rw [hb.block _ (by simp)]
    have := heap_alloc_new (w.alloc (.cells #[.int .i64 0, .int .i64 0, .int .i64 0, .int .i64 0] 79)) (.cells #[.int .i64 0, .int .i64 0] 32)
    simpa using this

section
variable {w : World} {F : Nat → Prop} {bd bn cap : Nat} {rn : List RN} {rv : Value} {s : List Nd} {rs : List Sp}

set_option maxRecDepth 20000 in
set_option maxHeartbeats 1000000 in
theorem rspan_no (hD : RDocAt w F bd bn cap rn rv s rs) (r : Int) (h : r < 0 ∨ (rs.length : Int) ≤ r) :
    Calls Tryz.prog 84 #[.pointer (some ⟨bd, 0, none⟩), .int .i64 r] w fun e w' => e = .returned (.tuple #[spV ⟨0, 0, 0, 0⟩, rfltV r 8]) ∧ Below w.heap.size w w' := by
  have CR := hid (fun W (hb : Below w.heap.size w W) => rranged_no (hD.below hb) r h)
  have h1b : ((8 : Int) == 0) = false := rfl
  clear hD h
  go_enter Tryz.func84, Tryz.ntmps84
  go_wp2_with (first
    | (go_at_call 131; refine (CR.out _ (sp0_below w)).mono ?_; rintro e w1 ⟨rfl, hb1⟩
       have H1 := hid hb1
       have hs1 := hb1.size
       clear hb1)
    | (go_at_call 124; refine (fine_any r 8 _).mono ?_; rintro e w2 ⟨rfl, hb2⟩
       have hf2 : w2.heap[w1.heap.size]? = some (.cells #[.int .i64 r, .int .i64 8] 32 (0, 0)) := (hb2.block _ (by simp)).trans (heap_alloc_new w1 _)
       have hB2 : Below (sp0 w).heap.size (sp0 w) w2 := (H1.out.alloc H1.out.size _).trans (hb2.mono (Nat.le_trans H1.out.size (by simp)))
       obtain ⟨s1, s2⟩ := sp0_cells hB2
       have cf0 : w2.cell? ⟨w1.heap.size, 0, none⟩ = some (.int .i64 r) := cell_of_heap hf2 0
       have cf1 : w2.cell? ⟨w1.heap.size, 1, none⟩ = some (.int .i64 8) := cell_of_heap hf2 1
       have za0 : w2.cell? ⟨w.heap.size, 0, none⟩ = some (.int .i64 0) := cell_of_heap s1 0
       have za1 : w2.cell? ⟨w.heap.size, 1, none⟩ = some (.int .i64 0) := cell_of_heap s1 1
       have za2 : w2.cell? ⟨w.heap.size, 2, none⟩ = some (.int .i64 0) := cell_of_heap s1 2
       have za3 : w2.cell? ⟨w.heap.size, 3, none⟩ = some (.int .i64 0) := cell_of_heap s1 3
       have zb0 : w2.cell? ⟨w.heap.size + 1, 0, none⟩ = some (.int .i64 0) := cell_of_heap s2 0
       have zb1 : w2.cell? ⟨w.heap.size + 1, 1, none⟩ = some (.int .i64 0) := cell_of_heap s2 1
       have fa0 := frozen_of_heap s1 0
       have fa1 := frozen_of_heap s1 1
       have fa2 := frozen_of_heap s1 2
       have fa3 := frozen_of_heap s1 3
       have fb0 := frozen_of_heap s2 0
       have fb1 := frozen_of_heap s2 1
       have hsa := heap_lt s2
       have hsf := heap_lt hf2
       have hne : ¬ w1.heap.size = w.heap.size := by simp at hs1; omega
       have hne' : ¬ w1.heap.size = w.heap.size + 1 := by simp at hs1; omega
       have HB2 := hid ((sp0_below w).trans (hB2.mono (sp0_below w).size))
       skip
       clear hb2 hf2 hB2 s1 s2
       rw [h1b]))
  go_region
  all_goals
    go_wp2
    refine bodyPost_ret (v := .tuple #[spV ⟨0, 0, 0, 0⟩, rfltV r 8]) (by simp [results, Tryz.results84, go_sem, *]) rfl ?_
    refine ⟨rfl, ?_⟩
    have hB := HB2.out
    have hz := hB.size
    go_grown

set_option maxRecDepth 20000 in
set_option maxHeartbeats 1000000 in
theorem rspan_ok (hD : RDocAt w F bd bn cap rn rv s rs) (r : Nat) (x : Sp) (hx : rs[r]? = some x) :
    Calls Tryz.prog 84 #[.pointer (some ⟨bd, 0, none⟩), .int .i64 (r : Int)] w fun e w' => e = .returned (.tuple #[spV x, rfltV 0 0]) ∧ Below w.heap.size w w' := by
  have hr : r < rs.length := (List.getElem?_eq_some_iff.1 hx).1
  have CR := hid (fun W (hb : Below w.heap.size w W) => rranged_ok (hD.below hb) r hr)
  have h1b : ((0 : Int) == 0) = true := rfl
  have hlt := hD.lt
  have hrv := hD.rangesCell
  obtain ⟨g, rc, hrve⟩ : ∃ g c, rv = .slice (some ⟨g, 0, none⟩) rs.length c := by
    rcases row_cases hD.ranges with ⟨_, h0⟩ | ⟨g, c, h⟩
    · omega
    · exact ⟨g, c, h⟩
  have hrow := hD.ranges
  rw [hrve] at hrv hrow
  have hgl : g < w.heap.size := (hrow.lt g rfl).2
  have e0 : w.cell? ⟨g, r * 4, none⟩ = some (.int .i64 x.a) := by have := hrow.cellAt (r * 4 + 0) (by omega); rw [spcells_get rs r x hx 0 (by omega)] at this; simpa [Sp.cells] using this
  have e1 : w.cell? ⟨g, r * 4 + 1, none⟩ = some (.int .i64 x.b) := by have := hrow.cellAt (r * 4 + 1) (by omega); rw [spcells_get rs r x hx 1 (by omega)] at this; simpa [Sp.cells] using this
  have e2 : w.cell? ⟨g, r * 4 + 2, none⟩ = some (.int .i64 x.c) := by have := hrow.cellAt (r * 4 + 2) (by omega); rw [spcells_get rs r x hx 2 (by omega)] at this; simpa [Sp.cells] using this
  have e3 : w.cell? ⟨g, r * 4 + 3, none⟩ = some (.int .i64 x.d) := by have := hrow.cellAt (r * 4 + 3) (by omega); rw [spcells_get rs r x hx 3 (by omega)] at this; simpa [Sp.cells] using this
  clear hD hrow hx
  go_enter Tryz.func84, Tryz.ntmps84
  go_wp2_with (first
    | (go_at_call 131; refine (CR.out _ (sp0_below w)).mono ?_; rintro e w1 ⟨rfl, hb1⟩
       have H1 := hid hb1
       have hs1 := hb1.size
       clear hb1)
    | (go_at_call 124; refine (fine_any 0 0 _).mono ?_; rintro e w2 ⟨rfl, hb2⟩
       have hf2 : w2.heap[w1.heap.size]? = some (.cells #[.int .i64 0, .int .i64 0] 32 (0, 0)) := (hb2.block _ (by simp)).trans (heap_alloc_new w1 _)
       have hB2 : Below (sp0 w).heap.size (sp0 w) w2 := (H1.out.alloc H1.out.size _).trans (hb2.mono (Nat.le_trans H1.out.size (by simp)))
       obtain ⟨s1, s2⟩ := sp0_cells hB2
       have cf0 : w2.cell? ⟨w1.heap.size, 0, none⟩ = some (.int .i64 0) := cell_of_heap hf2 0
       have cf1 : w2.cell? ⟨w1.heap.size, 1, none⟩ = some (.int .i64 0) := cell_of_heap hf2 1
       have za0 : w2.cell? ⟨w.heap.size, 0, none⟩ = some (.int .i64 0) := cell_of_heap s1 0
       have za1 : w2.cell? ⟨w.heap.size, 1, none⟩ = some (.int .i64 0) := cell_of_heap s1 1
       have za2 : w2.cell? ⟨w.heap.size, 2, none⟩ = some (.int .i64 0) := cell_of_heap s1 2
       have za3 : w2.cell? ⟨w.heap.size, 3, none⟩ = some (.int .i64 0) := cell_of_heap s1 3
       have zb0 : w2.cell? ⟨w.heap.size + 1, 0, none⟩ = some (.int .i64 0) := cell_of_heap s2 0
       have zb1 : w2.cell? ⟨w.heap.size + 1, 1, none⟩ = some (.int .i64 0) := cell_of_heap s2 1
       have fa0 := frozen_of_heap s1 0
       have fa1 := frozen_of_heap s1 1
       have fa2 := frozen_of_heap s1 2
       have fa3 := frozen_of_heap s1 3
       have fb0 := frozen_of_heap s2 0
       have fb1 := frozen_of_heap s2 1
       have hsa := heap_lt s2
       have hsf := heap_lt hf2
       have hne : ¬ w1.heap.size = w.heap.size := by simp at hs1; omega
       have hne' : ¬ w1.heap.size = w.heap.size + 1 := by simp at hs1; omega
       have HB2 := hid ((sp0_below w).trans (hB2.mono (sp0_below w).size))
       have d0 := (HB2.out.cell (p := ⟨bd, 1, none⟩) hlt.1).trans hrv
       have m0 := (HB2.out.cell (p := ⟨g, r * 4, none⟩) hgl).trans e0
       have m1 := (HB2.out.cell (p := ⟨g, r * 4 + 1, none⟩) hgl).trans e1
       have m2 := (HB2.out.cell (p := ⟨g, r * 4 + 2, none⟩) hgl).trans e2
       have m3 := (HB2.out.cell (p := ⟨g, r * 4 + 3, none⟩) hgl).trans e3
       have hgn : ¬ w.heap.size = g := by omega
       have hgn1 : ¬ w.heap.size + 1 = g := by omega
       clear hb2 hf2 hB2 s1 s2
       rw [h1b]))
  go_region
  all_goals
    go_wp2
    refine bodyPost_ret (v := .tuple #[spV x, rfltV 0 0]) (by simp [results, Tryz.results84, go_sem, *]) rfl ?_
    refine ⟨rfl, ?_⟩
    have hB := HB2.out
    have hz := hB.size
    go_grown
end
end Go.Proofs.YtabogkonklplcaaGreatDoor

/- marginref's Range. -/
namespace Go.Proofs.YtabogkonklplcaaGreatDoor
open Go.RowKit
set_option linter.unusedSimpArgs false
set_option linter.unusedVariables false

theorem Tryz.info79 : (Tryz.prog.info? 79).map (fun i => (i.zero, i.size, i.bytes)) = some (some (.agg #[.int .i64 0, .int .i64 0, .int .i64 0, .int .i64 0]), 4, 32) := by kernel_rfl

section
variable {w : World} {F : Nat → Prop} {bd bn cap : Nat} {rn : List RN} {rv : Value} {s : List Nd} {rs : List Sp}

/-- The ranges are others now: in their own block, or in a new one. -/
theorem RDocAt.newRanges (h : RDocAt w F bd bn cap rn rv s rs) {w1 : World} {v' : Value} {rs' : List Sp} {B : Nat} (hB : B ≤ w.heap.size) (hk1 : Keeps (fun b => rv.ownBlock = some b) w w1)
    (ho : w1.ownsRow 0 79 4 v' rs'.length (rs'.flatMap Sp.cells)) (hgn : ∀ b, v'.ownBlock = some b → rv.ownBlock = some b ∨ w.heap.size ≤ b) :
    RDocAt (w1.setCell ⟨bd, 1, none⟩ v') (fun b => F b ∨ B ≤ b) bd bn cap rn v' s rs' := by
  have hlt := h.lt
  have hbd : rv.ownBlock ≠ some bd := fun e => (h.apart bd e).2.1 rfl
  have hbn : rv.ownBlock ≠ some bn := fun e => (h.apart bn e).2.2 rfl
  have hk : Keeps (fun b => rv.ownBlock = some b ∨ b = bd) w (w1.setCell ⟨bd, 1, none⟩ v') := (hk1.mono (fun k _ e => .inl e)).setCell (p := ⟨bd, 1, none⟩) (.inl (.inr rfl)) _
  have hv : v'.ownBlock ≠ some bd := fun e => by
    rcases hgn bd e with e | e
    · exact hbd e
    · omega
  have hvn : v'.ownBlock ≠ some bn := fun e => by
    rcases hgn bn e with e | e
    · exact hbn e
    · omega
  refine ⟨?_, ?_, row_setCell_other ho hv _, .inl h.Fd, .inl h.Fn, h.ne, fun b e => ⟨?_, fun e2 => hv (by rw [← e2]; exact e), fun e2 => hvn (by rw [← e2]; exact e)⟩, h.len, fun i r x hr hx => ?_⟩
  · have e1 := (hk1.block bd hlt.1 hbd).trans h.doc
    rw [heap_setCell_same w1 bd 1 _ _ _ e1]
    simp
  · exact hk.row h.nodes (fun b e e2 => by
      cases e
      rcases e2 with e2 | e2
      · exact hbn e2
      · exact h.ne e2.symm)
  · rcases hgn b e with e | e
    · exact .inl (h.apart b e).1
    · exact .inr (by omega)
  · have o := h.ok i r x hr hx
    have far : ∀ b, b < w.heap.size → rv.ownBlock ≠ some b → v'.ownBlock ≠ some b := fun b hb hr e => by
      rcases hgn b e with e | e
      · exact hr e
      · omega
    refine ⟨o.t, o.p, hk.row o.chars (fun b e e2 => ?_), hk.row o.kids (fun b e e2 => ?_), fun b e => ?_, fun b e => ?_⟩
    · rcases e2 with e2 | e2
      · exact (o.apartC b e).2.2.2 e2
      · exact (o.apartC b e).2.1 e2
    · rcases e2 with e2 | e2
      · exact (o.apartK b e).2.2.2 e2
      · exact (o.apartK b e).2.1 e2
    · have a := o.apartC b e
      exact ⟨.inl a.1, a.2.1, a.2.2.1, far b (o.chars.lt b e).2 a.2.2.2⟩
    · have a := o.apartK b e
      exact ⟨.inl a.1, a.2.1, a.2.2.1, far b (o.kids.lt b e).2 a.2.2.2⟩

set_option maxHeartbeats 400000 in
theorem rrange_full (hD : RDocAt w F bd bn cap rn rv s rs) (h6 : 6 ≤ rs.length) :
    Calls Tryz.prog 81 #[.pointer (some ⟨bd, 0, none⟩)] w fun e w' => e = .returned (.tuple #[.int .i64 0, rfltV 0 7]) ∧ Below w.heap.size w w' := by
  obtain ⟨ra, rc, hrve⟩ := slice_shape hD.ranges
  have hrv := hD.rangesCell
  rw [hrve] at hrv
  have hl : bd < w.heap.size := hD.lt.1
  clear hD
  have h1 : (6 : Int) ≤ rs.length := by omega
  go_enter Tryz.func81, Tryz.ntmps81
  go_wp2_with (go_at_call 48; refine (no_any _ _ _).mono ?_; rintro e w' ⟨rfl, rfl⟩)
  go_returns
  exact ⟨rfl, by go_grown⟩

set_option maxRecDepth 20000 in
set_option maxHeartbeats 1000000 in
theorem rrange_some (hD : RDocAt w F bd bn cap rn rv s rs) (h6 : rs.length < 6) :
    Calls Tryz.prog 81 #[.pointer (some ⟨bd, 0, none⟩)] w fun e w' => e = .returned (.tuple #[.int .i64 rs.length, rfltV 0 0]) ∧ Keeps F w w' ∧ RDoc w' (fun b => F b ∨ w.heap.size ≤ b) bd s (rs ++ [⟨0, 0, 0, 0⟩]) := by
  obtain ⟨i0, hi, hz0, hz1, hz2⟩ := info_parts Tryz.info79
  obtain ⟨ra, rc, hrve⟩ := slice_shape hD.ranges
  have hrv := hD.rangesCell
  rw [hrve] at hrv
  have hlt := hD.lt
  have h1 : ¬ (6 : Int) ≤ rs.length := by omega
  have hD2 : RDocAt ((w.alloc (.cells #[.int .i64 0, .int .i64 0] 32)).alloc (.cells #[.int .i64 0, .int .i64 0, .int .i64 0, .int .i64 0] 79)) (fun b => F b ∧ b < w.heap.size) bd bn cap rn rv s rs := hD.narrow.below (((Below.refl _ w).alloc (Nat.le_refl _) _).alloc (by simp) _)
  have hrow := hD2.ranges
  rw [hrve] at hrow
  have src : ∀ (j : Nat) (u : Value), [Value.int .i64 0, .int .i64 0, .int .i64 0, .int .i64 0][j]? = some u → ((w.alloc (.cells #[.int .i64 0, .int .i64 0] 32)).alloc (.cells #[.int .i64 0, .int .i64 0, .int .i64 0, .int .i64 0] 79)).cell? ((⟨w.heap.size + 1, 0, none⟩ : Addr).add j) = some u := by
    have := World.news_of_block (heap_alloc_new (w.alloc (.cells #[.int .i64 0, .int .i64 0] 32)) (.cells #[.int .i64 0, .int .i64 0, .int .i64 0, .int .i64 0] 79))
    simpa using this
  have hq2 : ((w.alloc (.cells #[.int .i64 0, .int .i64 0] 32)).alloc (.cells #[.int .i64 0, .int .i64 0, .int .i64 0, .int .i64 0] 79)).heap[w.heap.size]? = some (.cells #[.int .i64 0, .int .i64 0] 32 (0, 0)) := by
    rw [Below.heap_alloc _ _ _ (by simp), heap_alloc_new]
  have hbd : (Value.slice ra rs.length rc).ownBlock ≠ some bd := fun e => (hD.apart bd (by rw [hrve]; exact e)).2.1 rfl
  have hbl : ∀ b, (Value.slice ra rs.length rc).ownBlock = some b → b < w.heap.size := fun b e => (hD.ranges.lt b (by rw [hrve]; exact e)).2
  have SRC := hid src
  have HD := hid hD2
  have HO := hid hD
  have HQ := hid hq2
  have HROW := hid hrow
  have HBD := hid (And.intro hbd hbl)
  have HRV := hid hrve
  clear hD hD2 src hq2 hrow hbd hbl hrve
  go_enter Tryz.func81, Tryz.ntmps81
  go_wp2_with (
    at_builtin
    refine wpList_append_lies _ rfl (.tmp 15) (.tmp 17) 121 rfl 0 79 i0 _ 4 32 Tryz.underlying121 hi hz0 hz1 hz2 rfl (by decide) (.slice ra rs.length rc) rs.length _ rfl HROW.out ⟨w.heap.size + 1, 0, none⟩ 1 1 [.int .i64 0, .int .i64 0, .int .i64 0, .int .i64 0] rfl rfl SRC.out (by simp [Value.oneCell']) (by decide) (by unfold maxLen; omega) (by omega) (Nat.zero_le _) (w.heap.size + 2) (by simp) ?_
    intro g cap' w1 ho hg hgn _
    have hk1 : Keeps (fun b => (Value.slice ra rs.length rc).ownBlock = some b) ((w.alloc (.cells #[.int .i64 0, .int .i64 0] 32)).alloc (.cells #[.int .i64 0, .int .i64 0, .int .i64 0, .int .i64 0] 79)) w1 := Keeps.grown hg (fun k e => .inl e)
    have hd1 := (hk1.block bd (by simp only [World.size_alloc]; omega) HBD.out.1).trans HD.out.doc
    have hc1 : w1.cell? ⟨bd, 1, none⟩ = some rv := cell_of_heap hd1 1
    have hf1 := frozen_of_heap hd1 1
    have hq1 := (hk1.block w.heap.size (by simp only [World.size_alloc]; omega) (fun e => by have := HBD.out.2 _ e; omega)).trans HQ.out
    have hc2 : w1.cell? ⟨w.heap.size, 0, none⟩ = some (.int .i64 0) := cell_of_heap hq1 0
    have hc3 : w1.cell? ⟨w.heap.size, 1, none⟩ = some (.int .i64 0) := cell_of_heap hq1 1
    have hf2 := frozen_of_heap hq1 0
    have hf3 := frozen_of_heap hq1 1
    have hne : ¬ bd = w.heap.size := by omega
    have HK := hid hk1
    have HO2 := hid ho
    have HN := hid hgn
    clear hd1 hq1 hg ho hgn hk1)
  refine bodyPost_ret (v := .tuple #[.int .i64 rs.length, rfltV 0 0]) (by simp [results, Tryz.results81, go_sem, *]) rfl ?_
  have hk0 : Keeps F w w1 := (((Keeps.refl F w).alloc _).alloc _).trans (HK.out.mono (fun b _ e => .inl (HO.out.apart b (by rw [HRV.out]; exact e)).1))
  refine ⟨rfl, ((hk0.setCell (p := ⟨bd, 1, none⟩) (.inl HO.out.Fd) _).setCell (p := ⟨w.heap.size, 0, none⟩) (.inr (Nat.le_refl _)) _).setCell (p := ⟨w.heap.size, 1, none⟩) (.inr (Nat.le_refl _)) _, bn, cap, rn, .slice (some ⟨g, 0, none⟩) (rs.length + 1) cap', ?_⟩
  have hp := HD.out.newRanges (v' := .slice (some ⟨g, 0, none⟩) (rs.length + 1) cap') (rs' := rs ++ [⟨0, 0, 0, 0⟩]) (B := w.heap.size + 1) (by simp only [World.size_alloc]; omega) (by rw [HRV.out]; exact HK.out)
    (by rw [List.length_append, List.flatMap_append]; exact HO2.out) (fun b e => by
      cases e
      rcases HN.out with e | e
      · exact .inl (by rw [HRV.out]; exact e)
      · exact .inr (by simp only [World.size_alloc]; omega))
  have hk3 : Keeps (fun b => b = w.heap.size) (w1.setCell ⟨bd, 1, none⟩ (.slice (some ⟨g, 0, none⟩) (rs.length + 1) cap')) _ :=
    ((Keeps.refl (fun b => b = w.heap.size) _).setCell (p := ⟨w.heap.size, 0, none⟩) (.inl rfl) (.int .i64 0)).setCell (p := ⟨w.heap.size, 1, none⟩) (.inl rfl) (.int .i64 0)
  refine (hp.keeps hk3 ?_).wider ?_
  · intro b hb e
    rcases hb with hb | hb <;> omega
  · intro b hb
    rcases hb with hb | hb
    · exact .inl hb.1
    · exact .inr (by omega)
end
end Go.Proofs.YtabogkonklplcaaGreatDoor

/- marginref: one cell of one range is written; a place that is moved (grown, replaced, parted, shrunk). -/
namespace Go.Proofs.YtabogkonklplcaaGreatDoor
open Go.RowKit
set_option linter.unusedSimpArgs false
set_option linter.unusedVariables false

theorem spcells_set (rs : List Sp) (i : Nat) (r r' : Sp) (h : rs[i]? = some r) (j : Nat) (hj : j < 4) (u : Value) (he : r'.cells = r.cells.set j u) :
    (rs.flatMap Sp.cells).set (i * 4 + j) u = (rs.set i r').flatMap Sp.cells := by
  induction rs generalizing i with
  | nil => simp at h
  | cons a l ih =>
    cases i with
    | zero =>
      simp at h; subst h
      simp only [List.flatMap_cons, List.set_cons_zero, Nat.zero_mul, Nat.zero_add]
      rw [List.set_append_left _ _ (by simpa [Sp.cells] using hj), ← he]
    | succ i =>
      have e : (i + 1) * 4 + j = (i * 4 + j) + 4 := by omega
      simp only [List.flatMap_cons, List.set_cons_succ]
      rw [e, List.set_append_right _ _ (by simp [Sp.cells])]
      congr 1
      simpa [Sp.cells] using ih i (by simpa using h)

section
variable {w : World} {F : Nat → Prop} {bd bn cap : Nat} {rn : List RN} {rv : Value} {s : List Nd} {rs : List Sp}

/-- One cell of one range is written. -/
theorem RDocAt.setSp (h : RDocAt w F bd bn cap rn rv s rs) {q g c : Nat} (hrv : rv = .slice (some ⟨g, 0, none⟩) rs.length c) {r r' : Sp} (hr : rs[q]? = some r) (j : Nat) (hj : j < 4) (u : Value) (he : r'.cells = r.cells.set j u) :
    RDocAt (w.setCell ⟨g, q * 4 + j, none⟩ u) F bd bn cap rn rv s (rs.set q r') := by
  have hg : rv.ownBlock = some g := by rw [hrv]; rfl
  have hk : Keeps (fun b => b = g) w (w.setCell ⟨g, q * 4 + j, none⟩ u) := (Keeps.refl (fun b => b = g) w).setCell (p := ⟨g, q * 4 + j, none⟩) (.inl rfl) u
  refine ⟨?_, ?_, ?_, h.Fd, h.Fn, h.ne, h.apart, h.len, ?_⟩
  · rw [hk.block bd (heap_lt h.doc) (fun e => (h.apart g hg).2.1 e.symm)]; exact h.doc
  · exact hk.row h.nodes (fun b e e2 => by cases e; exact (h.apart g hg).2.2 e2.symm)
  · have hrow := h.ranges
    rw [hrv] at hrow ⊢
    have := (hrow.stored (q * 4 + j) u).1
    rw [spcells_set rs q r r' hr j hj u he] at this
    rw [List.length_set]
    exact this
  · intro k r1 x1 h1 h2
    have o := h.ok k r1 x1 h1 h2
    exact ⟨o.t, o.p, hk.row o.chars (fun b e e2 => (o.apartC b e).2.2.2 (by rw [e2]; exact hg)), hk.row o.kids (fun b e e2 => (o.apartK b e).2.2.2 (by rw [e2]; exact hg)), o.apartC, o.apartK⟩

theorem RDocAt.spanCells (hD : RDocAt w F bd bn cap rn rv s rs) {r : Nat} {x : Sp} (hx : rs[r]? = some x) : ∃ g c, rv = .slice (some ⟨g, 0, none⟩) rs.length c ∧ g < w.heap.size ∧ F g ∧ g ≠ bd ∧ g ≠ bn ∧ w.cell? ⟨g, r * 4, none⟩ = some (.int .i64 x.a) ∧ w.cell? ⟨g, r * 4 + 1, none⟩ = some (.int .i64 x.b) ∧ w.cell? ⟨g, r * 4 + 2, none⟩ = some (.int .i64 x.c) ∧ w.cell? ⟨g, r * 4 + 3, none⟩ = some (.int .i64 x.d) ∧
    (∀ o, w.frozen? ⟨g, o, none⟩ = false) := by
  have hr : r < rs.length := (List.getElem?_eq_some_iff.1 hx).1
  obtain ⟨g, rc, hrve⟩ : ∃ g c, rv = .slice (some ⟨g, 0, none⟩) rs.length c := by
    rcases row_cases hD.ranges with ⟨_, h0⟩ | ⟨g, c, h⟩
    · omega
    · exact ⟨g, c, h⟩
  have hrow := hD.ranges
  have ha := hD.apart g (by rw [hrve]; rfl)
  rw [hrve] at hrow
  refine ⟨g, rc, hrve, (hrow.lt g rfl).2, ha.1, ha.2.1, ha.2.2, ?_, ?_, ?_, ?_, fun o => hrow.frozenAt o⟩
  · have := hrow.cellAt (r * 4 + 0) (by omega); rw [spcells_get rs r x hx 0 (by omega)] at this; simpa [Sp.cells] using this
  · have := hrow.cellAt (r * 4 + 1) (by omega); rw [spcells_get rs r x hx 1 (by omega)] at this; simpa [Sp.cells] using this
  · have := hrow.cellAt (r * 4 + 2) (by omega); rw [spcells_get rs r x hx 2 (by omega)] at this; simpa [Sp.cells] using this
  · have := hrow.cellAt (r * 4 + 3) (by omega); rw [spcells_get rs r x hx 3 (by omega)] at this; simpa [Sp.cells] using this
end

theorem set_mid {α : Type} (f : α → α) (rs : List α) (q : Nat) (x : α) (hx : rs[q]? = some x) : ((rs.take q).map f ++ rs.drop q).set q (f x) = (rs.take (q + 1)).map f ++ rs.drop (q + 1) := by
  have hq : q < rs.length := (List.getElem?_eq_some_iff.1 hx).1
  have hd : rs.drop q = x :: rs.drop (q + 1) := by
    rw [List.drop_eq_getElem_cons hq]
    rw [(List.getElem?_eq_some_iff.1 hx).2]
  rw [hd, List.set_append_right _ _ (by simp; omega)]
  have e : q - ((rs.take q).map f).length = 0 := by simp; omega
  rw [e, List.set_cons_zero, List.take_add_one, hx]
  simp
theorem get_mid {α : Type} (f : α → α) (rs : List α) (q : Nat) (x : α) (hx : rs[q]? = some x) : ((rs.take q).map f ++ rs.drop q)[q]? = some x := by
  have hq : q < rs.length := (List.getElem?_eq_some_iff.1 hx).1
  rw [List.getElem?_append_right (by simp; omega)]
  have e : q - ((rs.take q).map f).length = 0 := by simp; omega
  rw [e]
  simpa using hx

set_option maxRecDepth 20000 in
set_option maxHeartbeats 1000000 in
/-- A place behind a child that has come. -/
theorem grown_any (a b n o : Int) (w : World) (hb0 : 0 ≤ b) (hb : b ≤ 100) :
    Calls Tryz.prog 118 #[.agg #[.int .i64 a, .int .i64 b], .int .i64 n, .int .i64 o] w fun e w' => e = .returned (.agg #[.int .i64 (shiftF n o 1 a b).1, .int .i64 (shiftF n o 1 a b).2]) ∧ Below w.heap.size w w' := by
  by_cases ha : a = n
  · subst ha
    by_cases ho : o < b
    · have e1 : shiftF a o 1 a b = (a, b + 1) := by simp [shiftF, ho]
      rw [e1]
      have d2 : decide (o < b) = true := decide_eq_true ho
      go_enter Tryz.func118, Tryz.ntmps118
      go_wp2
      refine bodyPost_ret (v := .agg #[.int .i64 a, .int .i64 (b + 1)]) (by simp [results, Tryz.results118, go_sem]) rfl ?_
      exact ⟨rfl, by go_grown⟩
    · have e1 : shiftF a o 1 a b = (a, b) := by simp [shiftF, ho]
      rw [e1]
      have d2 : decide (o < b) = false := decide_eq_false ho
      go_enter Tryz.func118, Tryz.ntmps118
      go_wp2
      refine bodyPost_ret (v := .agg #[.int .i64 a, .int .i64 b]) (by simp [results, Tryz.results118, go_sem]) rfl ?_
      exact ⟨rfl, by go_grown⟩
  · have e1 : shiftF n o 1 a b = (a, b) := by simp [shiftF, ha]
    rw [e1]
    have d1 : (a == n) = false := by simpa using ha
    go_enter Tryz.func118, Tryz.ntmps118
    go_wp2
    refine bodyPost_ret (v := .agg #[.int .i64 a, .int .i64 b]) (by simp [results, Tryz.results118, go_sem]) rfl ?_
    exact ⟨rfl, by go_grown⟩

set_option maxRecDepth 20000 in
set_option maxHeartbeats 1000000 in
/-- A place when characters are replaced. -/
theorem replaced_any (a b n o c g : Int) (w : World) (hb0 : 0 ≤ b) (hb : b ≤ 100) (ho0 : 0 ≤ o) (ho : o ≤ 100) (hc0 : 0 ≤ c) (hc : c ≤ 100) (hg0 : 0 ≤ g) (hg : g ≤ 100) :
    Calls Tryz.prog 167 #[.agg #[.int .i64 a, .int .i64 b], .int .i64 n, .int .i64 o, .int .i64 c, .int .i64 g] w fun e w' => e = .returned (.agg #[.int .i64 (resizeF n o c g a b).1, .int .i64 (resizeF n o c g a b).2]) ∧ Below w.heap.size w w' := by
  have q : IntKind.i64.wrap (o + c) = o + c := by rw [IntKind.wrap_i64]; omega
  have q2 : IntKind.i64.wrap (b - c) = b - c := by rw [IntKind.wrap_i64]; omega
  have q3 : IntKind.i64.wrap (b - c + g) = b - c + g := by rw [IntKind.wrap_i64]; omega
  by_cases ha : a = n
  · subst ha
    by_cases h1 : b ≤ o
    · have e1 : resizeF a o c g a b = (a, b) := by
        unfold resizeF shiftF
        rw [if_neg (by omega), if_neg (by omega)]
      rw [e1]
      have d2 : decide (b ≤ o) = true := decide_eq_true h1
      go_enter Tryz.func167, Tryz.ntmps167
      go_wp2
      refine bodyPost_ret (v := .agg #[.int .i64 a, .int .i64 b]) (by simp [results, Tryz.results167, go_sem]) rfl ?_
      exact ⟨rfl, by go_grown⟩
    · have d2 : decide (b ≤ o) = false := decide_eq_false h1
      by_cases h2 : b ≤ o + c
      · have e1 : resizeF a o c g a b = (a, o) := by
          unfold resizeF
          rw [if_pos ⟨rfl, by omega, h2⟩]
        rw [e1]
        have d3 : decide (b ≤ o + c) = true := decide_eq_true h2
        go_enter Tryz.func167, Tryz.ntmps167
        go_wp2
        refine bodyPost_ret (v := .agg #[.int .i64 a, .int .i64 o]) (by simp [results, Tryz.results167, go_sem]) rfl ?_
        exact ⟨rfl, by go_grown⟩
      · have e1 : resizeF a o c g a b = (a, b - c + g) := by
          unfold resizeF shiftF
          rw [if_neg (by omega), if_pos ⟨rfl, by omega⟩]
          have : b + (g - c) = b - c + g := by omega
          rw [this]
        rw [e1]
        have d3 : decide (b ≤ o + c) = false := decide_eq_false h2
        go_enter Tryz.func167, Tryz.ntmps167
        go_wp2
        refine bodyPost_ret (v := .agg #[.int .i64 a, .int .i64 (b - c + g)]) (by simp [results, Tryz.results167, go_sem]) rfl ?_
        exact ⟨rfl, by go_grown⟩
  · have e1 : resizeF n o c g a b = (a, b) := by
      unfold resizeF shiftF
      rw [if_neg (fun h => ha h.1), if_neg (fun h => ha h.1)]
    rw [e1]
    have d1 : (a == n) = false := by simpa using ha
    have d1' : (a != n) = true := by simp [bne, d1]
    go_enter Tryz.func167, Tryz.ntmps167
    go_wp2
    refine bodyPost_ret (v := .agg #[.int .i64 a, .int .i64 b]) (by simp [results, Tryz.results167, go_sem]) rfl ?_
    exact ⟨rfl, by go_grown⟩

set_option maxRecDepth 20000 in
set_option maxHeartbeats 1000000 in
/-- A place when a text with a parent is split. -/
theorem parted_any (a b n o fr p i : Int) (w : World) (hb0 : 0 ≤ b) (hb : b ≤ 100) (ho0 : 0 ≤ o) (ho : o ≤ 100) :
    Calls Tryz.prog 126 #[.agg #[.int .i64 a, .int .i64 b], .int .i64 n, .int .i64 o, .int .i64 fr, .int .i64 p, .int .i64 i] w fun e w' => e = .returned (.agg #[.int .i64 (carryF n o fr (shiftF p i 1) a b).1, .int .i64 (carryF n o fr (shiftF p i 1) a b).2]) ∧ Below w.heap.size w w' := by
  by_cases hc : a = n ∧ o < b
  · obtain ⟨rfl, h2⟩ := hc
    have e1 : carryF a o fr (shiftF p i 1) a b = (fr, b - o) := by simp [carryF, h2]
    rw [e1]
    have d2 : decide (o < b) = true := decide_eq_true h2
    go_enter Tryz.func126, Tryz.ntmps126
    go_wp2
    refine bodyPost_ret (v := .agg #[.int .i64 fr, .int .i64 (b - o)]) (by simp [results, Tryz.results126, go_sem]) rfl ?_
    exact ⟨rfl, by go_grown⟩
  · have e0 : carryF n o fr (shiftF p i 1) a b = shiftF p i 1 a b := by unfold carryF; rw [if_neg hc]
    rw [e0]
    clear e0
    obtain ⟨r0, r1, hr⟩ : ∃ r0 r1, shiftF p i 1 a b = (r0, r1) := ⟨_, _, rfl⟩
    by_cases h1 : a = n
    · subst h1
      have d2 : decide (o < b) = false := decide_eq_false (fun h => hc ⟨rfl, h⟩)
      by_cases h3 : a = p
      · subst h3
        by_cases h4 : i < b
        · have e1 : shiftF a i 1 a b = (a, b + 1) := by simp [shiftF, h4]
          rw [e1]
          have d4 : decide (i < b) = true := decide_eq_true h4
          clear hr
          go_enter Tryz.func126, Tryz.ntmps126
          go_wp2
          refine bodyPost_ret (v := .agg #[.int .i64 a, .int .i64 (b + 1)]) (by simp [results, Tryz.results126, go_sem]) rfl ?_
          exact ⟨rfl, by go_grown⟩
        · have e1 : shiftF a i 1 a b = (a, b) := by simp [shiftF, h4]
          rw [e1]
          have d4 : decide (i < b) = false := decide_eq_false h4
          clear hr
          go_enter Tryz.func126, Tryz.ntmps126
          go_wp2
          refine bodyPost_ret (v := .agg #[.int .i64 a, .int .i64 b]) (by simp [results, Tryz.results126, go_sem]) rfl ?_
          exact ⟨rfl, by go_grown⟩
      · have e1 : shiftF p i 1 a b = (a, b) := by simp [shiftF, h3]
        rw [e1]
        have d3 : (a == p) = false := by simpa using h3
        clear hr
        go_enter Tryz.func126, Tryz.ntmps126
        go_wp2
        refine bodyPost_ret (v := .agg #[.int .i64 a, .int .i64 b]) (by simp [results, Tryz.results126, go_sem]) rfl ?_
        exact ⟨rfl, by go_grown⟩
    · have d1 : (a == n) = false := by simpa using h1
      by_cases h3 : a = p
      · subst h3
        by_cases h4 : i < b
        · have e1 : shiftF a i 1 a b = (a, b + 1) := by simp [shiftF, h4]
          rw [e1]
          have d4 : decide (i < b) = true := decide_eq_true h4
          clear hr
          go_enter Tryz.func126, Tryz.ntmps126
          go_wp2
          refine bodyPost_ret (v := .agg #[.int .i64 a, .int .i64 (b + 1)]) (by simp [results, Tryz.results126, go_sem]) rfl ?_
          exact ⟨rfl, by go_grown⟩
        · have e1 : shiftF a i 1 a b = (a, b) := by simp [shiftF, h4]
          rw [e1]
          have d4 : decide (i < b) = false := decide_eq_false h4
          clear hr
          go_enter Tryz.func126, Tryz.ntmps126
          go_wp2
          refine bodyPost_ret (v := .agg #[.int .i64 a, .int .i64 b]) (by simp [results, Tryz.results126, go_sem]) rfl ?_
          exact ⟨rfl, by go_grown⟩
      · have e1 : shiftF p i 1 a b = (a, b) := by simp [shiftF, h3]
        rw [e1]
        have d3 : (a == p) = false := by simpa using h3
        clear hr
        go_enter Tryz.func126, Tryz.ntmps126
        go_wp2
        refine bodyPost_ret (v := .agg #[.int .i64 a, .int .i64 b]) (by simp [results, Tryz.results126, go_sem]) rfl ?_
        exact ⟨rfl, by go_grown⟩

section
variable {w : World} {F : Nat → Prop} {bd bn cap : Nat} {rn : List RN} {rv : Value} {s : List Nd} {rs : List Sp}

set_option maxRecDepth 20000 in
set_option maxHeartbeats 1000000 in
/-- A place when a node is to go. -/
theorem shrunk_any (hD : RDocAt w F bd bn cap rn rv s rs) {ht : Nat → Nat} {B : Nat} (hU : Up s ht B) (i j m : Nat) (x y : Nd) (hx : s[i]? = some x) (hj : x.p = j) (hy : s[j]? = some y) (hm : y.ks[m]? = some i) (hno : i ∉ y.ks.take m) (hbig : y.ks.length < lots) (l : List Nat)
    (a b : Nat) (ha : a < s.length) (hb : b ≤ 100) (hl : Lim (fun c => withinF s c (a : Int) (i : Int)) (l.contains a)) :
    Calls Tryz.prog 119 #[.pointer (some ⟨bd, 0, none⟩), .agg #[.int .i64 (a : Int), .int .i64 (b : Int)], .int .i64 i] w fun e w' => e = .returned (.agg #[.int .i64 (gatherF l j m (shiftF j m (-1)) a b).1, .int .i64 (gatherF l j m (shiftF j m (-1)) a b).2]) ∧ Below w.heap.size w w' := by
  have hi : i < s.length := (List.getElem?_eq_some_iff.1 hx).1
  have h0 := hD.nodesCell
  have hlt := hD.lt
  obtain ⟨r, hr, ho, -, -, -, hc3⟩ := hD.look hx
  rw [hj] at hc3
  have hc : (l.map Int.ofNat).contains (a : Int) = l.contains a := by
    rw [Bool.eq_iff_iff]
    simp
    constructor
    · rintro ⟨k, hk, e⟩
      obtain rfl : k = a := by omega
      exact hk
    · intro h
      exact ⟨a, h, rfl⟩
  have CI := hid (fun W (hB : Below w.heap.size w W) => index_at (hD.below hB) i j m x y hx hj hy hbig hm hno)
  have CW := hid (fun W (hB : Below w.heap.size w W) => within_at (hD.below hB) hU (a : Int) (i : Int) (by omega) hl)
  have hB1 : Below w.heap.size w ((w.alloc (.cells #[.int .i64 (a : Int), .int .i64 (b : Int)] 37)).alloc (.cells #[.int .i64 0, .int .i64 0] 37)) := ((Below.refl _ w).alloc (Nat.le_refl _) _).alloc (by simp) _
  have HB1 := hid hB1
  clear hD hr ho hx hj hy hm hno hbig hl hB1
  unfold gatherF
  rw [hc]
  cases hin : l.contains a with
  | true =>
    rw [hin] at CW
    simp only [if_true]
    clear hc hin
    go_enter Tryz.func119, Tryz.ntmps119
    go_wp2_with first
      | (go_at_call 121; refine (CI.out _ HB1.out).mono ?_; rintro e w1 ⟨rfl, q1, rfl⟩)
      | (go_at_call 116; refine (CW.out _ (below_drewN HB1.out _)).mono ?_; rintro e w2 ⟨rfl, hw2⟩; replace hw2 := hw2.symm; subst hw2)
    refine bodyPost_ret (v := .agg #[.int .i64 (j : Int), .int .i64 (m : Int)]) (by simp [results, Tryz.results119, go_sem]) rfl ?_
    exact ⟨rfl, by go_grown; all_goals exact below_drewN HB1.out _⟩
  | false =>
    rw [hin] at CW
    simp only [if_false, Bool.false_eq_true]
    clear hc hin
    by_cases h1 : (a : Int) = j
    · have h1n : a = j := by omega
      subst h1n
      by_cases h2 : (m : Int) < b
      · have e1 : shiftF a m (-1) a b = ((a : Int), (b : Int) - 1) := by
          unfold shiftF; rw [if_pos ⟨rfl, h2⟩]; rfl
        rw [e1]
        have d2 : decide ((m : Int) < b) = true := decide_eq_true h2
        go_enter Tryz.func119, Tryz.ntmps119
        go_wp2_with first
          | (go_at_call 121; refine (CI.out _ HB1.out).mono ?_; rintro e w1 ⟨rfl, q1, rfl⟩)
          | (go_at_call 116; refine (CW.out _ (below_drewN HB1.out _)).mono ?_; rintro e w2 ⟨rfl, hw2⟩; replace hw2 := hw2.symm; subst hw2)
        refine bodyPost_ret (v := .agg #[.int .i64 (a : Int), .int .i64 ((b : Int) - 1)]) (by simp [results, Tryz.results119, go_sem]) rfl ?_
        exact ⟨rfl, by go_grown; all_goals exact below_drewN HB1.out _⟩
      · have e1 : shiftF a m (-1) a b = ((a : Int), (b : Int)) := by
          unfold shiftF; rw [if_neg (fun h => h2 h.2)]
        rw [e1]
        have d2 : decide ((m : Int) < b) = false := decide_eq_false h2
        go_enter Tryz.func119, Tryz.ntmps119
        go_wp2_with first
          | (go_at_call 121; refine (CI.out _ HB1.out).mono ?_; rintro e w1 ⟨rfl, q1, rfl⟩)
          | (go_at_call 116; refine (CW.out _ (below_drewN HB1.out _)).mono ?_; rintro e w2 ⟨rfl, hw2⟩; replace hw2 := hw2.symm; subst hw2)
        refine bodyPost_ret (v := .agg #[.int .i64 (a : Int), .int .i64 (b : Int)]) (by simp [results, Tryz.results119, go_sem]) rfl ?_
        exact ⟨rfl, by go_grown; all_goals exact below_drewN HB1.out _⟩
    · have e1 : shiftF j m (-1) a b = ((a : Int), (b : Int)) := by
        unfold shiftF; rw [if_neg (fun h => h1 h.1)]
      rw [e1]
      have d1 : ((a : Int) == (j : Int)) = false := by simpa using h1
      go_enter Tryz.func119, Tryz.ntmps119
      go_wp2_with first
        | (go_at_call 121; refine (CI.out _ HB1.out).mono ?_; rintro e w1 ⟨rfl, q1, rfl⟩)
        | (go_at_call 116; refine (CW.out _ (below_drewN HB1.out _)).mono ?_; rintro e w2 ⟨rfl, hw2⟩; replace hw2 := hw2.symm; subst hw2)
      refine bodyPost_ret (v := .agg #[.int .i64 (a : Int), .int .i64 (b : Int)]) (by simp [results, Tryz.results119, go_sem]) rfl ?_
      exact ⟨rfl, by go_grown; all_goals exact below_drewN HB1.out _⟩
end

end Go.Proofs.YtabogkonklplcaaGreatDoor

/- marginref: ranges that are moved one after another. -/
namespace Go.Proofs.YtabogkonklplcaaGreatDoor
open Go.RowKit
set_option linter.unusedSimpArgs false
set_option linter.unusedVariables false

def leftN (n : Nat) (t : Value) : Nat := n - (intOf t).toNat

/-- Ranges that are moved, one after another. -/
def RgInv (w : World) (F FF : Nat → Prop) (bd bn cap : Nat) (rn : List RN) (rv : Value) (s : List Nd) (rs : List Sp) (f : Mvf) (P : World → Prop) (t : Value) (wr : World) : Prop :=
  ∃ q : Nat, q ≤ rs.length ∧ t = .int .i64 (q : Int) ∧ RDocAt wr FF bd bn cap rn rv s ((rs.take q).map (mvSp f) ++ rs.drop q) ∧ Keeps F w wr ∧ P wr

section
variable {w : World} {F : Nat → Prop} {bd bn cap : Nat} {rn : List RN} {rv : Value} {s : List Nd} {rs : List Sp}

theorem RDocAt.spanAt (hD : RDocAt w F bd bn cap rn rv s rs) {r g c n : Nat} {x : Sp} (hx : rs[r]? = some x) (hv : rv = .slice (some ⟨g, 0, none⟩) n c) : w.cell? ⟨g, r * 4, none⟩ = some (.int .i64 x.a) ∧ w.cell? ⟨g, r * 4 + 1, none⟩ = some (.int .i64 x.b) ∧ w.cell? ⟨g, r * 4 + 2, none⟩ = some (.int .i64 x.c) ∧ w.cell? ⟨g, r * 4 + 3, none⟩ = some (.int .i64 x.d) ∧
    (∀ o, w.frozen? ⟨g, o, none⟩ = false) := by
  obtain ⟨g', c', hv', _, _, _, _, h⟩ := hD.spanCells hx
  rw [hv] at hv'
  cases hv'
  exact h

end

/-- No place is far out. -/
def Small (rs : List Sp) : Prop := ∀ x ∈ rs, 0 ≤ x.b ∧ x.b ≤ 100 ∧ 0 ≤ x.d ∧ x.d ≤ 100
theorem Small.of {s : List Nd} (wf : WF s) {rs : List Sp} (h : ∀ x ∈ rs, SpOk s x) : Small rs := fun x hx => by
  have h1 := (h x hx).1.small wf
  have h2 := (h x hx).2.small wf
  omega

end Go.Proofs.YtabogkonklplcaaGreatDoor
