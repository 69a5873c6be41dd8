import Derived.Test.YtabogkonklplcaaGreatDoorQ49
import Derived.Test.YtabogkonklplcaaGreatDoorQ48

namespace Go.Proofs.YtabogkonklplcaaGreatDoor
open Go.RowKit Go.Lib
set_option linter.unusedSimpArgs false
set_option linter.unusedVariables false
set_option maxRecDepth 20000 in
set_option maxHeartbeats 8000000 in
theorem parted_B {w : World} (hg : GG w) (a : Option Addr) (g off c : Nat) (l : List StepR) (hS : ScrAt w a g off l) (p : StepR) (hp : StepOk p) (more : ByteArray) (hl : 40 < l.length) :
    Calls Tryz.prog 10 #[.slice a l.length c, p.val, .string more] w fun e w' => e = .returned (.bool true) ∧ Below w.heap.size w w' := by
  obtain ⟨W0, hW0⟩ : ∃ W, w.alloc (.cells #[.int .i64 p.K, .int .i64 p.A, .int .i64 p.B, .int .i64 p.C] 56) = W := ⟨_, rfl⟩
  have hB0 : Below w.heap.size w W0 := by rw [← hW0]; exact (Below.refl _ w).alloc (Nat.le_refl _) _
  have hg0 : GG W0 := hg.below hB0
  have hP : W0.heap[w.heap.size]? = some (.cells #[.int .i64 p.K, .int .i64 p.A, .int .i64 p.B, .int .i64 p.C] 56 (0, 0)) := by rw [← hW0]; exact heap_alloc_new w _
  have hScr := hS.below hB0
  have C0 := hid (laid_at hg0)
  have HH := hid (And.intro hScr (And.intro hg0 (And.intro hB0 (And.intro hP hp))))
  have HW0 := hid hW0
  clear hS hScr hg hg0 hB0 hP hp hW0
  unfold StepR.val
  go_enter Tryz.func10, Tryz.ntmps10
  go_wp2_with (
    go_at_call 23
    rw [HW0.out]
    refine C0.out.mono ?_
    rintro e w1 ⟨F1, bw, bx, rfl, hd1⟩
    have HD1 := hid hd1
    clear hd1)
  clear C0 HW0
  go_loopw [9] (fun t9 wr => ∃ (i : Nat) (s : List Nd) (rs : List Sp), t9 = .int .i64 (i : Int) ∧ i ≤ 40 ∧ Mid W0 wr bw bx s rs ∧ ∃ x, s[2]? = some x ∧ x.t = true) (fun t _ => leftN 40 t)
  case atStart => exact ⟨0, ndS, rsS, rfl, by omega, mid_laid HD1.out, _, rfl, rfl⟩
  case round =>
    clear HD1
    obtain ⟨i, s, rs, rfl, hi40, hM, htx⟩ := hrel
    obtain ⟨hScr, hg0, hB0, hP, hp⟩ := HH.out
    have hlow := hM.desk.choose_spec.low
    by_cases hgo : i < l.length ∧ i < 40
    · obtain ⟨h1, h2⟩ := hgo
      have h1' : (i : Int) < (l.length : Int) := by omega
      have h2' : (i : Int) < 40 := by omega
      obtain ⟨o, ho⟩ : ∃ o, l[i]? = some o := ⟨_, List.getElem?_eq_getElem h1⟩
      obtain ⟨rfl, e0, e1, e2, e3, hok⟩ := (hScr.below (hlow.mono (Nat.le_refl _))).step ho
      have C := hid (hM.does hg0 o hok true)
      have HTX := hid htx
      clear hM hlow hScr hg0 hB0 hP hp hok ho htx
      go_wp2_with (
        go_at_call 24
        refine C.out.mono ?_
        rintro e w2 ⟨rfl, s2, fs, hdd, hm2⟩
        have HM2 := hid (And.intro hm2 (hdd.text HTX.out))
        clear hm2 hdd)
      go_roundw
      case rel => exact ⟨i + 1, s2, _, by simp, by omega, HM2.out.1, HM2.out.2⟩
      case measure =>
        show 40 - ((i : Int) + 1).toNat < 40 - ((i : Int)).toNat
        omega
    · have h1' : (i : Int) < (l.length : Int) := by omega
      have h2' : ¬ (i : Int) < 40 := by omega
      obtain ⟨wf, hlen, sp, F, hD⟩ := hM
      obtain ⟨x2, hx2, ht2⟩ := htx
      obtain ⟨hh, B, u⟩ := wf.up
      have hcap := wf.cap
      have h2l := (List.getElem?_eq_some_iff.1 hx2).1
      obtain ⟨t, t2⟩ := top_there wf 2 h2l
      have hsz2 : sizeAt s 2 = x2.cs.length := (sizeAt_eq hx2).trans (sizeN_text ht2)
      have hch2 := (wf.chars 2 x2 hx2).1
      obtain ⟨ky, hky⟩ : ∃ k, pickM p.A (x2.cs.length + 1) = k := ⟨_, rfl⟩
      have hkyl : ky ≤ x2.cs.length := by have := pickM_lt p.A (n := x2.cs.length + 1) (by omega); omega
      -- the calls
      have CS0 : Hid (∀ (F' : Nat → Prop) (W : World), Desk W0 F' W bw bx (s.length : Int) 2 ⟨s, rs⟩ → Calls Tryz.prog 28 #[ptr bw, .int .i64 2] W fun e w' => e = .returned (.int .i64 (x2.cs.length : Int)) ∧ Keeps F' W w' ∧ Desk W0 (grow F' W) w' bw bx (s.length : Int) 2 ⟨s, rs⟩) := fun F' W h => by
        have := size_at hg0 wf h 2 h2l
        rw [hsz2] at this
        exact this
      have CPK : Hid (∀ W : World, Calls Tryz.prog 27 #[.int .i64 p.A, .int .i64 ((x2.cs.length : Int) + 1)] W fun e w' => e = .returned (.int .i64 (ky : Int)) ∧ w' = W) := fun W => by
        have := pick_is p.A hp.hA (x2.cs.length + 1) (by omega) (by omega) W
        rw [hky] at this
        exact this
      have hwr : IntKind.i64.wrap ((x2.cs.length : Int) + 1) = (x2.cs.length : Int) + 1 := IntWalk.i64_in _ (by omega)
      obtain ⟨r1, hr1⟩ : ∃ x, rs[1]? = some x := ⟨_, List.getElem?_eq_getElem (by omega)⟩
      obtain ⟨rs1, hrs1e⟩ : ∃ q, rs.set 1 ⟨t, 0, t, (sizeAt s t : Int)⟩ = q := ⟨_, rfl⟩
      have CW1 : Hid (∀ (F' : Nat → Prop) (W : World), Desk W0 F' W bw bx (s.length : Int) 2 ⟨s, rs⟩ → Calls Tryz.prog 29 #[ptr bw, .int .i64 1, .agg #[.int .i64 2, .int .i64 0]] W fun e w' => e = .returned (.tuple #[.string (catB (allC s B t)), .bool true]) ∧ Keeps F' W w' ∧ Desk W0 (grow F' W) w' bw bx (s.length : Int) 2 ⟨s, rs1⟩) := fun F' W h => by
        have := whole_at hg0 wf u (by omega) sp s.length (Nat.le_refl _) h 1 r1 hr1 2 0 t h2l (Nat.zero_le _) t2 t2.lt
        rw [hrs1e] at this
        exact this
      have hlen1 : rs1.length = 2 := by rw [← hrs1e, List.length_set]; exact hlen
      have sp1 : ∀ z ∈ rs1, SpIs s z := by
        intro z hz
        rw [← hrs1e] at hz
        rcases List.mem_or_eq_of_mem_set hz with hz | rfl
        · exact sp z hz
        · exact spIs_in wf t2.lt (Nat.zero_le _) (Nat.le_refl _)
      obtain ⟨kk, a2, y2, s2, f2, wf2, R2, L2, C2⟩ := pans_split s wf rs1 (by omega) (fun z hz => (sp1 z hz).ok) 2 (ky : Int)
      have LV : ∀ z, SpIs s z → SpIs s2 (mvSp f2 z) := L2 _ spIs_lives
      have hlen2 : (rs1.map (mvSp f2)).length = 2 := by rw [List.length_map]; exact hlen1
      have sp2 : ∀ z ∈ rs1.map (mvSp f2), SpIs s2 z := mapV sp1 LV
      obtain ⟨r2, hr2⟩ : ∃ x, (rs1.map (mvSp f2))[1]? = some x := ⟨_, List.getElem?_eq_getElem (by omega)⟩
      obtain ⟨hh2, B2, u2⟩ := wf2.up
      have hO : DeskO W0 F wr bw bx (s.length : Int) 2 ⟨s, rs⟩ [(w.heap.size, .cells #[.int .i64 p.K, .int .i64 p.A, .int .i64 p.B, .int .i64 p.C] 56 (0, 0))] := by
        refine ⟨hD, ?_⟩
        intro x hx
        simp only [List.mem_cons, List.not_mem_nil, or_false] at hx
        subst hx
        exact ⟨(hD.low.block _ (heap_lt hP)).trans hP, fun e => Nat.not_le_of_lt (heap_lt hP) (hD.ge _ e)⟩
      have HO := hid hO
      have HB0 := hid hB0
      have d2 := hO.desk.cells.2.2
      have P1 := cell_of_heap (hO.own _ (.head _)).1 1
      by_cases hy2 : y2 = 0
      · have hPF := part_facts wf u hx2 ht2 t2 R2 hy2 wf2 u2 LV
        obtain ⟨hkk, hl2, h40, t22, hx5, _, zn, hz5, hzt, hzc, hcase⟩ := hPF
        have htl := t2.lt
        have h2l2 := (List.getElem?_eq_some_iff.1 hx5).1
        have hnl2 := (List.getElem?_eq_some_iff.1 hz5).1
        have CSL : Hid (∀ (F' : Nat → Prop) (W : World), Desk W0 F' W bw bx (s.length : Int) 2 ⟨s, rs1⟩ → Calls Tryz.prog 30 #[ptr bx, .int .i64 2, .int .i64 (ky : Int)] W (PLPost F' W bx ⟨s2, rs1.map (mvSp f2)⟩ (.tuple #[.int .i64 (s.length : Int), .nilIface]))) := fun F' W h => by
          have := C2 W F' bx (h.gg hg0) h.doc
          rw [hkk, show errV a2 y2 = .nilIface from by simp [errV, hy2]] at this
          exact this
        obtain ⟨rs3, hrs3e⟩ : ∃ q, (rs1.map (mvSp f2)).set 1 ⟨t, 0, t, (sizeAt s2 t : Int)⟩ = q := ⟨_, rfl⟩
        have CW2 : Hid (∀ (F' : Nat → Prop) (W : World), Desk W0 F' W bw bx (s.length : Int) 2 ⟨s2, rs1.map (mvSp f2)⟩ → Calls Tryz.prog 29 #[ptr bw, .int .i64 1, .agg #[.int .i64 2, .int .i64 0]] W fun e w' => e = .returned (.tuple #[.string (catB (allC s2 B2 t)), .bool true]) ∧ Keeps F' W w' ∧ Desk W0 (grow F' W) w' bw bx (s.length : Int) 2 ⟨s2, rs3⟩) := fun F' W h => by
          have := whole_at hg0 wf2 u2 (by omega) sp2 s.length (by omega) h 1 r2 hr2 2 0 t h2l2 (Nat.zero_le _) t22 htl
          rw [hrs3e] at this
          exact this
        have hlen3 : rs3.length = 2 := by rw [← hrs3e, List.length_set]; exact hlen2
        have sp3 : ∀ z ∈ rs3, SpIs s2 z := by
          intro z hz
          rw [← hrs3e] at hz
          rcases List.mem_or_eq_of_mem_set hz with hz | rfl
          · exact sp2 z hz
          · exact spIs_in wf2 (by omega) (Nat.zero_le _) (Nat.le_refl _)
        have hsz5 : sizeAt s2 2 = ky := by
          rw [(sizeAt_eq hx5).trans (sizeN_text ht2)]
          show (x2.cs.take ky).length = ky
          rw [List.length_take]
          omega
        obtain ⟨v, ev, cv, GV⟩ := pcompare_any (rs := rs3) wf2 u2 2 ky s.length 0 h2l2 (by omega) hnl2 (Nat.zero_le _)
        have CCM := hid (fun (F' : Nat → Prop) (W : World) (h : Desk W0 F' W bw bx (s.length : Int) 2 ⟨s2, rs3⟩) => GV W F' bx (h.gg hg0) h.doc)
        have CS2 : Hid (∀ (F' : Nat → Prop) (W : World), Desk W0 F' W bw bx (s.length : Int) 2 ⟨s2, rs3⟩ → Calls Tryz.prog 28 #[ptr bw, .int .i64 2] W fun e w' => e = .returned (.int .i64 (ky : Int)) ∧ Keeps F' W w' ∧ Desk W0 (grow F' W) w' bw bx (s.length : Int) 2 ⟨s2, rs3⟩) := fun F' W h => by
          have := size_at hg0 wf2 h 2 h2l2
          rw [hsz5] at this
          exact this
        obtain ⟨r3, hr3⟩ : ∃ x, rs3[0]? = some x := ⟨_, List.getElem?_eq_getElem (by omega)⟩
        obtain ⟨zc, zd, sp5, CT1, CS3, CT2, CR1⟩ := set_text (w0 := W0) (bw := bw) (bx := bx) (N := (s.length : Int) + 1) (M := 2) hg0 wf2 u2 (by omega) sp3 0 r3 hr3 s.length zn hz5 hzt
        obtain ⟨rs5, hrs5e⟩ : ∃ q, rs3.set 0 ⟨(s.length : Int), 0, (s.length : Int), (zn.cs.length : Int)⟩ = q := ⟨_, rfl⟩
        obtain ⟨rs4, hrs4e⟩ : ∃ q, rs3.set 0 ⟨(s.length : Int), 0, zc, zd⟩ = q := ⟨_, rfl⟩
        rw [hrs5e] at sp5 CT2 CR1
        rw [hrs4e] at CT1 CS3 CT2
        have hlen5 : rs5.length = 2 := by rw [← hrs5e, List.length_set]; exact hlen3
        obtain ⟨a6, y6, s6, f6, wf6, R6, L6, C6⟩ := pans_replace_big s2 wf2 rs5 (by omega) (fun z hz => (sp5 z hz).ok) (s.length : Int) 0 1099511627776 more
        have sp6 : ∀ z ∈ rs5.map (mvSp f6), SpIs s6 z := mapV sp5 (L6 _ spIs_lives)
        have hlen6 : (rs5.map (mvSp f6)).length = 2 := by rw [List.length_map]; exact hlen5
        obtain ⟨hh6, B6, u6⟩ := wf6.up
        -- the new text behind Replace
        obtain ⟨z6, hz6, hz6t, hz6c⟩ : ∃ z6, s6[s.length]? = some z6 ∧ z6.t = true ∧ ((y6 = 0 ∧ catB z6.cs = more) ∨ (y6 ≠ 0 ∧ catB z6.cs = catB zn.cs)) := by
          rcases R6 with ⟨h0, rfl, _⟩ | ⟨h0, n1, o1, cm, x1, lf, e1, e2, hcm, hx1, ht1, hc0, hoc, hlf, rfl, _⟩
          · exact ⟨zn, hz5, hzt, .inr ⟨h0, rfl⟩⟩
          · obtain rfl : s.length = n1 := by omega
            obtain rfl : o1 = 0 := by omega
            obtain rfl : zn = x1 := Option.some.inj (hz5.symm.trans hx1)
            have hzl := (wf2.chars _ _ hz5).1
            have hcml : cm = zn.cs.length := by rw [hcm]; omega
            refine ⟨_, List.getElem?_set_self hnl2, hzt, .inl ⟨h0, ?_⟩⟩
            show catB (zn.cs.take 0 ++ lf ++ zn.cs.drop (0 + cm)) = more
            rw [hcml, List.take_zero, List.nil_append, Nat.zero_add, List.drop_length, List.append_nil]
            exact charsOf_cat _ _ _ (Nat.le_refl _) hlf
        obtain ⟨r6, hr6⟩ : ∃ x, (rs5.map (mvSp f6))[0]? = some x := ⟨_, List.getElem?_eq_getElem (by omega)⟩
        obtain ⟨zc7, zd7, sp7, CT3, CS4, CT4, CR2⟩ := set_text (w0 := W0) (bw := bw) (bx := bx) (N := (s.length : Int) + 1) (M := 2) hg0 wf6 u6 (by omega) sp6 0 r6 hr6 s.length z6 hz6 hz6t
        have HT1 := hid CT1
        have HS3 := hid CS3
        have HT2 := hid CT2
        have HR1 := hid CR1
        have HT3 := hid CT3
        have HS4 := hid CS4
        have HT4 := hid CT4
        have HRP := hid (fun (F' : Nat → Prop) (W : World) (h : Desk W0 F' W bw bx ((s.length : Int) + 1) 2 ⟨s2, rs5⟩) => C6 W F' bx (h.gg hg0) h.doc)
        obtain ⟨old, hold⟩ : ∃ q, catB zn.cs = q := ⟨_, rfl⟩
        obtain ⟨fresh, hfresh⟩ : ∃ q, catB z6.cs = q := ⟨_, rfl⟩
        have HR2 := hid CR2
        rw [hold] at HR1 hz6c
        rw [hfresh] at HR2 hz6c
        obtain ⟨err6, herr6⟩ : ∃ q, errV a6 y6 = q := ⟨_, rfl⟩
        rw [herr6] at HRP
        have hend : (err6 = .nilIface ∧ fresh = more) ∨ ((∃ b1 b2 : Int, err6 = .iface 32 (.agg #[.int .i64 b1, .int .i64 b2])) ∧ fresh = old) := by
          rcases hz6c with ⟨h0, h1⟩ | ⟨h0, h1⟩
          · exact .inl ⟨by rw [← herr6]; simp [errV, h0], h1⟩
          · exact .inr ⟨⟨a6, y6, by rw [← herr6]; simp [errV, h0]⟩, h1⟩
        have hn2 : ¬ (s.length : Int) = 2 := by omega
        obtain ⟨str, hstr⟩ : ∃ q, catB (allC s B t) = q := ⟨_, rfl⟩
        rw [hstr] at CW1
        have hcase2 : (ev = .nilIface ∧ v = -1 ∧ catB (allC s2 B2 t) = str) ∨ Flt ev := by
          rcases hcase with ⟨h1, h2⟩ | h1
          · exact .inl ⟨(h1 v ev cv).1, (h1 v ev cv).2, by rw [h2, hstr]⟩
          · exact .inr (h1 v ev cv)
        obtain ⟨str2, hstr2⟩ : ∃ q, catB (allC s2 B2 t) = q := ⟨_, rfl⟩
        rw [hstr2] at CW2 hcase2
        obtain ⟨nz, hnz⟩ : ∃ q, zn.cs.length = q := ⟨_, rfl⟩
        obtain ⟨nz6, hnz6⟩ : ∃ q, z6.cs.length = q := ⟨_, rfl⟩
        rw [hnz] at HS3 HT2
        rw [hnz6] at HS4 HT4 HR2
        obtain ⟨rs7, hrs7⟩ : ∃ q, (rs5.map (mvSp f6)).set 0 ⟨(s.length : Int), 0, zc7, zd7⟩ = q := ⟨_, rfl⟩
        obtain ⟨rs8, hrs8⟩ : ∃ q, (rs5.map (mvSp f6)).set 0 ⟨(s.length : Int), 0, (s.length : Int), (nz6 : Int)⟩ = q := ⟨_, rfl⟩
        rw [hrs7] at HT3 HS4 HT4
        rw [hrs8] at HT4 HR2
        clear CT1 CS3 CT2 CR1 CT3 CS4 CT4 CR2 C2 C6 GV hcase cv R2 R6 L2 L6 LV sp sp1 sp2 sp3 sp5 sp6 sp7 wf wf2 wf6 u u2 u6 hO hD hg0 hB0 hP hp hScr hlow hx5 hz5 hz6 hz6c hr1 hr2 hr3 hr6 hx2 t2 t22 hrs1e hrs3e hrs5e hrs4e hstr hstr2 hnz hnz6 hrs7 hrs8 hold hfresh herr6 hky hsz2 hsz5 hl2 hgo hzc hlen hlen1 hlen2 hlen3 hlen5 hlen6 htl h2l2 hnl2 hkk hy2
        rcases hcase2 with ⟨rfl, rfl, rfl⟩ | ⟨f1, f2', rfl⟩
        all_goals
          go_wp2
          go_region_held3 (fun w' => w'.cell? ⟨w.heap.size, 1, none⟩ = some (.int .i64 p.A)) (first | exact KS1.out | go_keep) (first
            | (go_at_call 28
               refine (CS0.out _ _ HO.out.drew.desk).mono ?_
               rintro e w2 ⟨rfl, hk, hd⟩
               have HO1 := hid (HO.out.drew.with hk hd)
               have KS1 := hid (cell_of_heap (HO1.out.own _ (.head _)).1 1)
               clear hk hd)
            | (go_at_call 27
               refine (CPK.out _).mono ?_
               rintro e w' ⟨rfl, rfl⟩))
          have HO2 := hid (HO1.out.alloc #[.int .i64 2, .int .i64 0] 37)
          have p0 := cell_of_heap (HO2.out.own _ (.head _)).1 0
          have p1 := cell_of_heap (HO2.out.own _ (.head _)).1 1
          go_wp2_with (first
            | (go_at_call 29
               refine (CW1.out _ _ HO2.out.desk).mono ?_
               rintro e w3 ⟨rfl, hk, hd⟩
               have HO3 := hid (HO2.out.with hk hd)
               have q0 := cell_of_heap (HO3.out.own _ (.head _)).1 0
               have q1 := cell_of_heap (HO3.out.own _ (.head _)).1 1
               have d3 := HO3.out.desk.cells.1
               clear hk hd HO2 p0 p1)
            | (go_at_call 30
               refine (CSL.out _ _ HO3.out.desk).mono ?_
               rintro e w4 ⟨rfl, hk, hl⟩
               have HO4 := hid (HO3.out.next hk hl)
               have u0 := cell_of_heap (HO4.out.own _ (.head _)).1 0
               have u1 := cell_of_heap (HO4.out.own _ (.head _)).1 1
               clear hk hl HO3 q0 q1 d3)
            | (go_at_call 29
               refine (CW2.out _ _ HO4.out.desk).mono ?_
               rintro e w5 ⟨rfl, hk, hd⟩
               have HO5 := hid (HO4.out.with hk hd)
               have v0 := HO5.out.desk.cells.1
               have v1 := HO5.out.desk.cells.2.1
               have vf := frozen_of_heap HO5.out.desk.at_ 1
               clear hk hd HO4 u0 u1)
            | (go_at_call 26
               refine (CCM.out _ _ HO5.out.desk).mono ?_
               rintro e w6 ⟨rfl, hk, hl⟩
               have HO6 := hid (HO5.out.next hk hl)
               clear hk hl HO5 v0 v1 vf)
            | (go_at_call 28
               refine (CS2.out _ _ HO6.out.desk).mono ?_
               rintro e w7 ⟨rfl, hk, hd⟩
               have HO7 := hid (HO6.out.with hk hd)
               have x0 := HO7.out.desk.cells.1
               have x1 := HO7.out.desk.cells.2.1
               have xf := frozen_of_heap HO7.out.desk.at_ 1
               have HD8 := hid (HO7.out.desk.setN ((s.length : Int) + 1))
               have y0 := HD8.out.cells.1
               clear hk hd HO6)
            | (go_at_call 31
               refine (HT1.out _ _ HD8.out).mono ?_
               rintro e w8 ⟨rfl, hk, hl⟩
               have HD9 := hid (HD8.out.next hk hl)
               have g9 := HD9.out.cells.1
               clear hk hl HD8 y0))
          go_region_held3 (fun w' => w'.cell? ⟨bw, 0, none⟩ = some (ptr bx)) (first | exact KA2.out | exact KA1.out | go_keep) (first
            | (go_at_call 28
               refine (HS3.out _ _ (HD9.out.below (Below.refl _ _).drew)).mono ?_
               rintro e w9 ⟨rfl, hk, hd⟩
               have HDA := hid hd
               have KA1 := hid HDA.out.cells.1
               clear hk hd)
            | (go_at_call 32
               refine (HT2.out _ _ HDA.out).mono ?_
               rintro e wa ⟨rfl, hk, hl⟩
               have HDB := hid (HDA.out.next hk hl)
               have KA2 := hid HDB.out.cells.1
               clear hk hl))
          have gB := HDB.out.cells.1
          rcases hend with ⟨rfl, rfl⟩ | ⟨⟨b1, b2, rfl⟩, rfl⟩
          all_goals
            go_wp2_with (first
              | (go_at_call 33
                 refine (HR1.out _ _ HDB.out).mono ?_
                 rintro e wb ⟨rfl, hk, hl⟩
                 have HDC := hid (HDB.out.next hk hl)
                 have gC := HDC.out.cells.1
                 clear hk hl HDB gB)
              | (go_at_call 34
                 refine (HRP.out _ _ HDC.out).mono ?_
                 rintro e wc ⟨rfl, hk, hl⟩
                 have HDD := hid (HDC.out.next hk hl)
                 have gD := HDD.out.cells.1
                 clear hk hl HDC gC)
              | (go_at_call 31
                 refine (HT3.out _ _ HDD.out).mono ?_
                 rintro e wd ⟨rfl, hk, hl⟩
                 have HDE := hid (HDD.out.next hk hl)
                 have gE := HDE.out.cells.1
                 clear hk hl HDD gD))
            go_region_held3 (fun w' => w'.cell? ⟨bw, 0, none⟩ = some (ptr bx)) (first | exact KB2.out | exact KB1.out | go_keep) (first
              | (go_at_call 28
                 refine (HS4.out _ _ (HDE.out.below (Below.refl _ _).drew)).mono ?_
                 rintro e we ⟨rfl, hk, hd⟩
                 have HDF := hid hd
                 have KB1 := hid HDF.out.cells.1
                 clear hk hd)
              | (go_at_call 32
                 refine (HT4.out _ _ HDF.out).mono ?_
                 rintro e wf ⟨rfl, hk, hl⟩
                 have HDG := hid (HDF.out.next hk hl)
                 have KB2 := hid HDG.out.cells.1
                 clear hk hl))
            have gG := HDG.out.cells.1
            go_wp2_with (
              go_at_call 33
              refine (HR2.out _ _ HDG.out).mono ?_
              rintro e wg ⟨rfl, hk, hl⟩
              have HDH := hid (HDG.out.next hk hl)
              clear hk hl)
            go_ret
            exact ⟨rfl, HB0.out.trans (HDH.out.low.mono HB0.out.size)⟩
      · have hs2 := R2.same hy2
        have h40 : s.length = 40 := by
          rcases R2 with ⟨_, _, _, h | h⟩ | ⟨h0, _⟩
          · omega
          · exact absurd ⟨2, ky, x2, rfl, rfl, hx2, ht2, hkyl⟩ h
          · exact absurd h0 hy2
        have hf2 : f2 = compF [] := by
          rcases R2 with ⟨_, _, h, _⟩ | ⟨h0, _⟩
          · exact h
          · exact absurd h0 hy2
        subst hs2 hf2
        rw [map_nil'] at C2 sp2
        have CSL : Hid (∀ (F' : Nat → Prop) (W : World), Desk W0 F' W bw bx (s2.length : Int) 2 ⟨s2, rs1⟩ → Calls Tryz.prog 30 #[ptr bx, .int .i64 2, .int .i64 (ky : Int)] W (PLPost F' W bx ⟨s2, rs1⟩ (.tuple #[.int .i64 kk, .iface 32 (.agg #[.int .i64 a2, .int .i64 y2])]))) := fun F' W h => by
          have := C2 W F' bx (h.gg hg0) h.doc
          rw [show errV a2 y2 = .iface 32 (.agg #[.int .i64 a2, .int .i64 y2]) from by simp [errV, hy2]] at this
          exact this
        obtain ⟨r3, hr3⟩ : ∃ x, rs1[1]? = some x := ⟨_, List.getElem?_eq_getElem (by omega)⟩
        obtain ⟨rs3, hrs3e⟩ : ∃ q, rs1.set 1 ⟨t, 0, t, (sizeAt s2 t : Int)⟩ = q := ⟨_, rfl⟩
        have CW2 : Hid (∀ (F' : Nat → Prop) (W : World), Desk W0 F' W bw bx (s2.length : Int) 2 ⟨s2, rs1⟩ → Calls Tryz.prog 29 #[ptr bw, .int .i64 1, .agg #[.int .i64 2, .int .i64 0]] W fun e w' => e = .returned (.tuple #[.string (catB (allC s2 B t)), .bool true]) ∧ Keeps F' W w' ∧ Desk W0 (grow F' W) w' bw bx (s2.length : Int) 2 ⟨s2, rs3⟩) := fun F' W h => by
          have := whole_at hg0 wf u (by omega) sp1 s2.length (Nat.le_refl _) h 1 r3 hr3 2 0 t h2l (Nat.zero_le _) t2 t2.lt
          rw [hrs3e] at this
          exact this
        obtain ⟨str, hstr⟩ : ∃ q, catB (allC s2 B t) = q := ⟨_, rfl⟩
        rw [hstr] at CW1 CW2
        have h40' : (s2.length : Int) = 40 := by omega
        clear C2 R2 L2 LV sp sp1 sp2 wf wf2 u u2 hO hD hg0 hB0 hP hp hScr hlow hr1 hr2 hr3 hx2 t2 hrs1e hrs3e hstr hky hsz2 hgo hlen hlen1 hlen2 hy2 h40
        go_wp2
        go_region_held3 (fun w' => w'.cell? ⟨w.heap.size, 1, none⟩ = some (.int .i64 p.A)) (first | exact KS1.out | go_keep) (first
          | (go_at_call 28
             refine (CS0.out _ _ HO.out.drew.desk).mono ?_
             rintro e w2 ⟨rfl, hk, hd⟩
             have HO1 := hid (HO.out.drew.with hk hd)
             have KS1 := hid (cell_of_heap (HO1.out.own _ (.head _)).1 1)
             clear hk hd)
          | (go_at_call 27
             refine (CPK.out _).mono ?_
             rintro e w' ⟨rfl, rfl⟩))
        have HO2 := hid (HO1.out.alloc #[.int .i64 2, .int .i64 0] 37)
        have p0 := cell_of_heap (HO2.out.own _ (.head _)).1 0
        have p1 := cell_of_heap (HO2.out.own _ (.head _)).1 1
        go_wp2_with (first
          | (go_at_call 29
             refine (CW1.out _ _ HO2.out.desk).mono ?_
             rintro e w3 ⟨rfl, hk, hd⟩
             have HO3 := hid (HO2.out.with hk hd)
             have q0 := cell_of_heap (HO3.out.own _ (.head _)).1 0
             have q1 := cell_of_heap (HO3.out.own _ (.head _)).1 1
             have d3 := HO3.out.desk.cells.1
             clear hk hd HO2 p0 p1)
          | (go_at_call 30
             refine (CSL.out _ _ HO3.out.desk).mono ?_
             rintro e w4 ⟨rfl, hk, hl⟩
             have HO4 := hid (HO3.out.next hk hl)
             have u0 := cell_of_heap (HO4.out.own _ (.head _)).1 0
             have u1 := cell_of_heap (HO4.out.own _ (.head _)).1 1
             clear hk hl HO3 q0 q1 d3)
          | (go_at_call 29
             refine (CW2.out _ _ HO4.out.desk).mono ?_
             rintro e w5 ⟨rfl, hk, hd⟩
             have HO5 := hid (HO4.out.with hk hd)
             have v0 := HO5.out.desk.cells.1
             have v1 := HO5.out.desk.cells.2.1
             have vf := frozen_of_heap HO5.out.desk.at_ 1
             clear hk hd HO4 u0 u1))
        go_ret
        exact ⟨rfl, HB0.out.trans (HO5.out.desk.low.mono HB0.out.size)⟩
end Go.Proofs.YtabogkonklplcaaGreatDoor
