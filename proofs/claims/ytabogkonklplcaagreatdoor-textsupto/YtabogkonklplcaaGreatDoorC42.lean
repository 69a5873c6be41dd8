import Derived.Test.YtabogkonklplcaaGreatDoorC41

/- marginref's replace. -/
namespace Go.Proofs.YtabogkonklplcaaGreatDoor
open Go.RowKit
set_option linter.unusedSimpArgs false
set_option linter.unusedVariables false

section
variable {w : World} {F : Nat → Prop} {bd bn cap : Nat} {rn : List RN} {rv : Value} {s : List Nd} {rs : List Sp}

/-- A node's characters are new ones, in blocks from N on. -/
theorem RDocAt.newChars (h : RDocAt w F bd bn cap rn rv s rs) {N i : Nat} {x : Nd} {v' : Value} {cs' : List ByteArray} (hF : ∀ b, F b → b < N) (hx : s[i]? = some x) (hrow : w.ownsRow N 9 1 v' cs'.length (strsV cs')) :
    ∃ rn2, RDocAt (w.setCell ⟨bn, i * 4 + 1, none⟩ v') (fun b => F b ∨ N ≤ b) bd bn cap rn2 rv (s.set i { x with cs := cs' }) rs := by
  obtain ⟨r, hr, ho⟩ := h.raw hx
  have hw := h.wider (G := fun b => F b ∨ N ≤ b) (fun b e => .inl e)
  have ho2 := hw.ok i r x hr hx
  have hb := fun b e => (hrow.lt b e).1
  have h0 : w.ownsRow 0 9 1 v' cs'.length (strsV cs') := by
    refine ⟨hrow.1, ?_⟩
    rcases hrow.2 with e | ⟨g, c, cur, e, _, q⟩
    · exact .inl e
    · exact .inr ⟨g, c, cur, e, Nat.zero_le _, q⟩
  refine ⟨_, hw.setNode (r' := { r with cv := v' }) hr hx 1 (by omega) v' rfl ⟨ho2.t, ho2.p, h0, ho2.kids, fun b e => ?_, ho2.apartK⟩⟩
  have h1 := hb b e
  have h2 := hF _ h.Fd
  have h3 := hF _ h.Fn
  refine ⟨.inr h1, by omega, by omega, fun e2 => ?_⟩
  have h4 := hF _ (h.apart b e2).1
  omega

theorem Tryz.elem107 : Tryz.prog.elem 107 = 9 := by kernel_rfl

theorem strsV_one (l : List ByteArray) : ∀ u ∈ strsV l, u.oneCell' = true := by
  intro u hu
  obtain ⟨b, _, rfl⟩ := List.mem_map.1 hu
  rfl

set_option maxRecDepth 20000 in
set_option maxHeartbeats 2000000 in
theorem replace_some (hD : RDocAt w F bd bn cap rn rv s []) (n k c : Nat) (x : Nd) (hx : s[n]? = some x) (hlen : x.cs.length ≤ 30) (r : RN) (hr : rn[n]? = some r) (g cc : Nat) (hcv : r.cv = .slice (some ⟨g, 0, none⟩) x.cs.length cc) (hk : k + c ≤ x.cs.length) (bv : Value) (lb : List ByteArray) (hbig : lb.length < lots) (hby : w.ownsRow 0 9 1 bv lb.length (strsV lb)) :
    Calls Tryz.prog 125 #[.pointer (some ⟨bd, 0, none⟩), .int .i64 n, .int .i64 k, .int .i64 c, bv] w fun e w' => e = .returned (.tuple #[]) ∧ Keeps F w w' ∧
      RDoc w' (fun b => F b ∨ w.heap.size ≤ b) bd (s.set n { x with cs := x.cs.take k ++ lb ++ x.cs.drop (k + c) }) [] := by
  obtain ⟨i0, hi, hz0, hz1, hz2⟩ := info_parts Tryz.info9
  have hn : n < s.length := (List.getElem?_eq_some_iff.1 hx).1
  unfold lots at hbig
  have h0 := hD.nodesCell
  have hlt := hD.lt
  obtain ⟨r', hr', ho, -, hc1, -, -⟩ := hD.look hx
  obtain rfl : r' = r := Option.some.inj (hr'.symm.trans hr)
  have hrow := ho.chars
  rw [hcv] at hc1 hrow
  have hcap := row_cap hrow
  have hkc : k ≤ cc := by omega
  have hkI : (k : Int) + c ≤ 30 := by omega
  obtain ⟨ad, hsl, hsrc⟩ := slice_from Tryz.underlying107 Tryz.elem107 Tryz.sizeOf9 hrow (k + c) hk
  have ec : (((k + c : Nat)) : Int) = (k : Int) + (c : Int) := by omega
  rw [ec] at hsl
  have src1 : SrcOk w 1 (.slice (some ⟨g, 0, none⟩) k cc) k (strsV (x.cs.take k)) := .inr ⟨_, _, rfl, by simp; omega, part_cells hrow 0 (ys := strsV (x.cs.take k)) (by intro j u hu; simp only [strsV, List.map_take] at hu ⊢; rw [List.getElem?_take] at hu; split at hu <;> simp_all), strsV_one _⟩
  have S1 := hid src1
  have HBY := hid hby
  have HSRC := hid hsrc
  have HROW := hid hrow
  have HD := hid hD
  have HX := hid hx
  obtain ⟨ra, rc, hrve⟩ : ∃ a c, rv = .slice a 0 c := slice_shape hD.ranges
  have hrv := hD.rangesCell
  rw [hrve] at hrv
  clear hD hr ho hrow hsrc hby src1 ec hx hcv
  go_enter Tryz.func125, Tryz.ntmps125
  go_wp2_with (first
    | (at_builtin; refine wpList_append_any _ rfl (.tmp 21) (.tmp 24) 107 rfl w.heap.size 9 i0 (.string ByteArray.empty) 1 16 Tryz.underlying107 hi hz0 hz1 hz2 rfl (by decide) (.slice none 0 0) 0 [] rfl (World.ownsRow_nil _ _ _ _) _ k _ rfl S1.out (by unfold maxLen; omega) (by omega) (Nat.le_refl _) ?_
       intro v1 w1 ho1 hb1
       have HO1 := hid ho1
       have HB1 := hid hb1
       clear ho1 hb1)
    | (at_builtin; refine wpList_append_any _ rfl (.tmp 26) (.tmp 27) 107 rfl w.heap.size 9 i0 (.string ByteArray.empty) 1 16 Tryz.underlying107 hi hz0 hz1 hz2 rfl (by decide) v1 _ _ rfl HO1.out bv lb.length _ rfl (SrcOk.of_row ((Keeps.of_below (F := fun _ => False) HB1.out).row HBY.out (fun _ _ e => e)) (strsV_one _)) (by unfold maxLen; omega) (by omega) HB1.out.size ?_
       intro v2 w2 ho2 hb2
       have hb2' := HB1.out.trans hb2
       have d0 := (hb2'.cell (p := ⟨bd, 0, none⟩) hlt.1).trans h0
       have dr := (hb2'.cell (p := ⟨bd, 1, none⟩) hlt.1).trans hrv
       have dc1 := (hb2'.cell (p := ⟨bn, n * 4 + 1, none⟩) hlt.2).trans hc1
       have HO2 := hid ho2
       have HB2 := hid hb2'
       clear ho2 hb2 hb2'))
  have hrw2 := (Keeps.of_below (F := fun _ => False) HB2.out).row HROW.out (fun _ _ e => e)
  have S3 : Hid (SrcOk w2.drew 1 (.slice (some ad) (x.cs.length - (k + c)) (cc - (k + c))) (x.cs.length - (k + c)) ((strsV x.cs).drop (k + c))) :=
    .inr ⟨_, _, rfl, by simp, HSRC.out w2.drew hrw2.drew, fun u hu => strsV_one x.cs u (List.mem_of_mem_drop hu)⟩
  have HO2d : Hid (w2.drew.ownsRow w.heap.size 9 1 v2 (k + lb.length) (strsV (x.cs.take k) ++ strsV lb)) := by
    have := HO2.out.drew
    rw [Nat.zero_add, List.nil_append] at this
    exact this
  have HF := hid (fun w3 (hB : Below w.heap.size w w3) => (HD.out.below hB).nodes.frozenAt (n * 4 + 1))
  have HB2d := hid (HB2.out.drew)
  have q1 : IntKind.i64.wrap ((k : Int) + (c : Int)) = (k : Int) + (c : Int) := by
    rw [IntKind.wrap_i64]; omega
  have hne2 : ¬ bd = bn := HD.out.ne
  have hne3 : ¬ bn = bd := fun e => HD.out.ne e.symm
  have q6 : (k : Int) + (c : Int) ≤ (x.cs.length : Int) := by omega
  have q7 : (0 : Int) ≤ (k : Int) + (c : Int) := by omega
  clear hrw2 HROW HSRC HO2 HO1 HB1 S1 HBY
  go_region_held3 (fun w' => w'.cell? ⟨bd, 0, none⟩ = some (.slice (some ⟨bn, 0, none⟩) s.length cap)) (first | exact f0 | go_keep) ((
    refine step_append_any _ rfl (.tmp 34) (.tmp 39) 107 rfl w.heap.size 9 i0 (.string ByteArray.empty) 1 16 Tryz.underlying107 hi hz0 hz1 hz2 rfl (by decide) v2 (k + lb.length) _ (by simp [Act.eval, Act.put]) HO2d.out (.slice (some ad) (x.cs.length - (k + c)) (cc - (k + c))) (x.cs.length - (k + c)) _ (by simp [Act.eval, Act.put]) S3.out (by unfold maxLen; omega) (by omega) HB2d.out.size ?_
    intro v3 w3 ho3 hb3
    obtain ⟨a3, c3, hv3⟩ := slice_shape ho3
    subst hv3
    have hB3 := HB2d.out.trans hb3
    have f0 := (hB3.cell (p := ⟨bd, 0, none⟩) hlt.1).trans h0
    have fr := (hB3.cell (p := ⟨bd, 1, none⟩) hlt.1).trans hrv
    have f1 := (hB3.cell (p := ⟨bn, n * 4 + 1, none⟩) hlt.2).trans hc1
    have ff := HF.out w3 hB3
    have HO3 := hid ho3
    have HB3 := hid hB3
    clear ho3 hb3 hB3))
  have gr : (w3.setCell ⟨bn, n * 4 + 1, none⟩ (.slice a3 (k + lb.length + (x.cs.length - (k + c))) c3)).cell? ⟨bd, 1, none⟩ = some (.slice ra 0 rc) := by
    unfold World.cell?
    rw [Below.heap_setCell _ _ _ _ (by simpa using hne2)]
    exact fr
  go_wp2
  go_rounds 1
  have hrow3 : w3.ownsRow w.heap.size 9 1 (.slice a3 (k + lb.length + (x.cs.length - (k + c))) c3) (x.cs.take k ++ lb ++ x.cs.drop (k + c)).length (strsV (x.cs.take k ++ lb ++ x.cs.drop (k + c))) := by
    have e1 : (x.cs.take k ++ lb ++ x.cs.drop (k + c)).length = k + lb.length + (x.cs.length - (k + c)) := by simp; omega
    have e2 : strsV (x.cs.take k ++ lb ++ x.cs.drop (k + c)) = strsV (x.cs.take k) ++ strsV lb ++ (strsV x.cs).drop (k + c) := by simp [strsV]
    rw [e1, e2]
    exact HO3.out
  obtain ⟨rn2, h3⟩ := (HD.out.narrow.below HB3.out).newChars (N := w.heap.size) (fun b e => e.2) HX.out hrow3
  go_end0
  refine ⟨rfl, (Keeps.of_below HB3.out).setCell (p := ⟨bn, n * 4 + 1, none⟩) (.inl HD.out.Fn) _, bn, cap, rn2, rv, h3.wider ?_⟩
  intro b hb
  rcases hb with hb | hb
  · exact .inl hb.1
  · exact .inr hb

set_option maxRecDepth 20000 in
set_option maxHeartbeats 2000000 in
theorem replace_nil (hD : RDocAt w F bd bn cap rn rv s []) (n k c : Nat) (hk0 : k = 0) (hc0 : c = 0) (x : Nd) (hx : s[n]? = some x) (hlen : x.cs.length ≤ 30) (r : RN) (hr : rn[n]? = some r) (hcv : r.cv = .slice none 0 0) (h0l : x.cs = []) (bv : Value) (lb : List ByteArray) (hbig : lb.length < lots) (hby : w.ownsRow 0 9 1 bv lb.length (strsV lb)) :
    Calls Tryz.prog 125 #[.pointer (some ⟨bd, 0, none⟩), .int .i64 n, .int .i64 k, .int .i64 c, bv] w fun e w' => e = .returned (.tuple #[]) ∧ Keeps F w w' ∧
      RDoc w' (fun b => F b ∨ w.heap.size ≤ b) bd (s.set n { x with cs := lb }) [] := by
  obtain ⟨i0, hi, hz0, hz1, hz2⟩ := info_parts Tryz.info9
  have hn : n < s.length := (List.getElem?_eq_some_iff.1 hx).1
  unfold lots at hbig
  have h0 := hD.nodesCell
  have hlt := hD.lt
  have hsl0 : ∀ w, (Instr.slice 107 (.slice none 0 0) none (some (.int .i64 (k : Int))) none).run Tryz.prog w = .ok (.slice none 0 0) w := fun w => by rw [hk0]; kernel_rfl
  have hsl : ∀ w, (Instr.slice 107 (.slice none 0 0) (some (.int .i64 ((k : Int) + (c : Int)))) none none).run Tryz.prog w = .ok (.slice none 0 0) w := fun w => by rw [hk0, hc0]; kernel_rfl
  have q1 : IntKind.i64.wrap ((k : Int) + (c : Int)) = (k : Int) + (c : Int) := by rw [hk0, hc0]; rfl
  obtain ⟨r', hr', ho, -, hc1, -, -⟩ := hD.look hx
  obtain rfl : r' = r := Option.some.inj (hr'.symm.trans hr)
  rw [hcv] at hc1
  have HBY := hid hby
  have HD := hid hD
  have HX := hid hx
  obtain ⟨ra, rc, hrve⟩ : ∃ a c, rv = .slice a 0 c := slice_shape hD.ranges
  have hrv := hD.rangesCell
  rw [hrve] at hrv
  clear hD hr ho hby hx hcv hk0 hc0
  go_enter Tryz.func125, Tryz.ntmps125
  go_wp2_with (first
    | (at_builtin; refine wpList_append_any _ rfl (.tmp 21) (.tmp 24) 107 rfl w.heap.size 9 i0 (.string ByteArray.empty) 1 16 Tryz.underlying107 hi hz0 hz1 hz2 rfl (by decide) (.slice none 0 0) 0 [] rfl (World.ownsRow_nil _ _ _ _) (.slice none 0 0) 0 [] rfl (.inl ⟨rfl, rfl, rfl⟩) (by unfold maxLen; omega) (by omega) (Nat.le_refl _) ?_
       intro v1 w1 ho1 hb1
       have HO1 := hid ho1
       have HB1 := hid hb1
       clear ho1 hb1)
    | (at_builtin; refine wpList_append_any _ rfl (.tmp 26) (.tmp 27) 107 rfl w.heap.size 9 i0 (.string ByteArray.empty) 1 16 Tryz.underlying107 hi hz0 hz1 hz2 rfl (by decide) v1 _ _ rfl HO1.out bv lb.length _ rfl (SrcOk.of_row ((Keeps.of_below (F := fun _ => False) HB1.out).row HBY.out (fun _ _ e => e)) (strsV_one _)) (by unfold maxLen; omega) (by omega) HB1.out.size ?_
       intro v2 w2 ho2 hb2
       have hb2' := HB1.out.trans hb2
       have d0 := (hb2'.cell (p := ⟨bd, 0, none⟩) hlt.1).trans h0
       have dr := (hb2'.cell (p := ⟨bd, 1, none⟩) hlt.1).trans hrv
       have dc1 := (hb2'.cell (p := ⟨bn, n * 4 + 1, none⟩) hlt.2).trans hc1
       have HO2 := hid ho2
       have HB2 := hid hb2'
       clear ho2 hb2 hb2'))
  have S3 : Hid (SrcOk w2.drew 1 (.slice none 0 0) 0 []) := .inl ⟨rfl, rfl, rfl⟩
  have HO2d : Hid (w2.drew.ownsRow w.heap.size 9 1 v2 lb.length (strsV lb)) := by
    have := HO2.out.drew
    rw [Nat.zero_add, List.nil_append, List.nil_append] at this
    exact this
  have HF := hid (fun w3 (hB : Below w.heap.size w w3) => (HD.out.below hB).nodes.frozenAt (n * 4 + 1))
  have HB2d := hid (HB2.out.drew)
  have hne2 : ¬ bd = bn := HD.out.ne
  have hne3 : ¬ bn = bd := fun e => HD.out.ne e.symm
  clear HO2 HO1 HB1 HBY
  go_region_held3 (fun w' => w'.cell? ⟨bd, 0, none⟩ = some (.slice (some ⟨bn, 0, none⟩) s.length cap)) (first | exact f0 | go_keep) ((
    refine step_append_any _ rfl (.tmp 34) (.tmp 39) 107 rfl w.heap.size 9 i0 (.string ByteArray.empty) 1 16 Tryz.underlying107 hi hz0 hz1 hz2 rfl (by decide) v2 lb.length _ (by simp [Act.eval, Act.put]) HO2d.out (.slice none 0 0) 0 [] (by simp [Act.eval, Act.put]) S3.out (by unfold maxLen; omega) (by omega) HB2d.out.size ?_
    intro v3 w3 ho3 hb3
    obtain ⟨a3, c3, hv3⟩ := slice_shape ho3
    subst hv3
    have hB3 := HB2d.out.trans hb3
    have f0 := (hB3.cell (p := ⟨bd, 0, none⟩) hlt.1).trans h0
    have fr := (hB3.cell (p := ⟨bd, 1, none⟩) hlt.1).trans hrv
    have f1 := (hB3.cell (p := ⟨bn, n * 4 + 1, none⟩) hlt.2).trans hc1
    have ff := HF.out w3 hB3
    have HO3 := hid ho3
    have HB3 := hid hB3
    clear ho3 hb3 hB3))
  have gr : (w3.setCell ⟨bn, n * 4 + 1, none⟩ (.slice a3 (lb.length + 0) c3)).cell? ⟨bd, 1, none⟩ = some (.slice ra 0 rc) := by
    unfold World.cell?
    rw [Below.heap_setCell _ _ _ _ (by simpa using hne2)]
    exact fr
  go_wp2
  go_rounds 1
  have hrow3 : w3.ownsRow w.heap.size 9 1 (.slice a3 (lb.length + 0) c3) lb.length (strsV lb) := by
    have := HO3.out
    rw [List.append_nil] at this
    exact this
  obtain ⟨rn2, h3⟩ := (HD.out.narrow.below HB3.out).newChars (N := w.heap.size) (fun b e => e.2) HX.out hrow3
  go_end0
  refine ⟨rfl, (Keeps.of_below HB3.out).setCell (p := ⟨bn, n * 4 + 1, none⟩) (.inl HD.out.Fn) _, bn, cap, rn2, rv, h3.wider ?_⟩
  intro b hb
  rcases hb with hb | hb
  · exact .inl hb.1
  · exact .inr hb

theorem replace_any (hD : RDocAt w F bd bn cap rn rv s []) (n k c : Nat) (x : Nd) (hx : s[n]? = some x) (hlen : x.cs.length ≤ 30) (hk : k + c ≤ x.cs.length) (bv : Value) (lb : List ByteArray) (hbig : lb.length < lots) (hby : w.ownsRow 0 9 1 bv lb.length (strsV lb)) :
    Calls Tryz.prog 125 #[.pointer (some ⟨bd, 0, none⟩), .int .i64 n, .int .i64 k, .int .i64 c, bv] w fun e w' => e = .returned (.tuple #[]) ∧ Keeps F w w' ∧
      RDoc w' (fun b => F b ∨ w.heap.size ≤ b) bd (s.set n { x with cs := x.cs.take k ++ lb ++ x.cs.drop (k + c) }) [] := by
  obtain ⟨r, hr, ho⟩ := hD.raw hx
  rcases row_cases ho.chars with ⟨hv, h0⟩ | ⟨g, cc, hgv⟩
  · have h0l : x.cs = [] := List.length_eq_zero_iff.1 h0
    have hk0 : k = 0 := by omega
    have hc0 : c = 0 := by omega
    have e : x.cs.take k ++ lb ++ x.cs.drop (k + c) = lb := by rw [h0l]; simp
    rw [e]
    exact replace_nil hD n k c hk0 hc0 x hx hlen r hr hv h0l bv lb hbig hby
  · exact replace_some hD n k c x hx hlen r hr g cc hgv hk bv lb hbig hby
end
end Go.Proofs.YtabogkonklplcaaGreatDoor
