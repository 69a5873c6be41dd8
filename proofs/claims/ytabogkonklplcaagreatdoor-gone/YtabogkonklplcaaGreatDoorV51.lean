import Derived.Test.YtabogkonklplcaaGreatDoorV50

namespace Go.Proofs.YtabogkonklplcaaGreatDoor
open Go.RowKit Go.Lib
set_option linter.unusedSimpArgs false
set_option linter.unusedVariables false
set_option maxRecDepth 20000 in
set_option maxHeartbeats 8000000 in
theorem gone_A {w : World} (hg : GG w) (a : Option Addr) (g off c : Nat) (l : List StepR) (hS : ScrAt w a g off l) (p q : StepR) (hp : StepOk p) (hq : StepOk q) (hl : l.length ≤ 40) :
    Calls Tryz.prog 13 #[.slice a l.length c, p.val, q.val] w fun e w' => e = .returned (.bool true) ∧ Below w.heap.size w w' := by
  obtain ⟨wP, hwP⟩ : ∃ W, w.alloc (.cells #[.int .i64 p.K, .int .i64 p.A, .int .i64 p.B, .int .i64 p.C] 56) = W := ⟨_, rfl⟩
  obtain ⟨W0, hwQ⟩ : ∃ W, wP.alloc (.cells #[.int .i64 q.K, .int .i64 q.A, .int .i64 q.B, .int .i64 q.C] 56) = W := ⟨_, rfl⟩
  have hW0 : (w.alloc (.cells #[.int .i64 p.K, .int .i64 p.A, .int .i64 p.B, .int .i64 p.C] 56)).alloc (.cells #[.int .i64 q.K, .int .i64 q.A, .int .i64 q.B, .int .i64 q.C] 56) = W0 := by rw [hwP, hwQ]
  have z1 : wP.heap.size = w.heap.size + 1 := by rw [← hwP]; simp
  have b1 : Below w.heap.size w wP := by rw [← hwP]; exact (Below.refl _ w).alloc (Nat.le_refl _) _
  have b2 : Below wP.heap.size wP W0 := by rw [← hwQ]; exact (Below.refl _ wP).alloc (Nat.le_refl _) _
  have hB0 : Below w.heap.size w W0 := b1.trans (b2.mono b1.size)
  have hg0 : GG W0 := hg.below hB0
  have hP : W0.heap[w.heap.size]? = some (.cells #[.int .i64 p.K, .int .i64 p.A, .int .i64 p.B, .int .i64 p.C] 56 (0, 0)) := (b2.block _ (by omega)).trans (by rw [← hwP]; exact heap_alloc_new w _)
  have hQ : W0.heap[w.heap.size + 1]? = some (.cells #[.int .i64 q.K, .int .i64 q.A, .int .i64 q.B, .int .i64 q.C] 56 (0, 0)) := by rw [← z1, ← hwQ]; exact heap_alloc_new wP _
  have hScr := hS.below hB0
  have C0 := hid (laid_at hg0)
  have HH := hid (And.intro hScr (And.intro hg0 (And.intro hB0 (And.intro hP (And.intro hQ (And.intro hp hq))))))
  have HW0 := hid hW0
  clear hS hScr hg hg0 hB0 hP hQ hp hq hW0 b1 b2 hwP hwQ z1
  unfold StepR.val
  go_enter Tryz.func13, Tryz.ntmps13
  go_wp2_with (
    go_at_call 23
    rw [HW0.out]
    refine C0.out.mono ?_
    rintro e w1 ⟨F1, bw, bx, rfl, hd1⟩
    have HD1 := hid hd1
    clear hd1)
  clear C0 HW0
  go_loopw [9] (fun t11 wr => ∃ (i : Nat) (s : List Nd) (rs : List Sp), t11 = .int .i64 (i : Int) ∧ i ≤ 40 ∧ Mid W0 wr bw bx s rs) (fun t _ => leftN 40 t)
  case atStart => exact ⟨0, ndS, rsS, rfl, by omega, mid_laid HD1.out⟩
  case round =>
    clear HD1
    obtain ⟨i, s, rs, rfl, hi40, hM⟩ := hrel
    obtain ⟨hScr, hg0, hB0, hP, hQ, hp, hq⟩ := HH.out
    have hlow := hM.desk.choose_spec.low
    by_cases hgo : i < l.length ∧ i < 40
    · obtain ⟨h1, h2⟩ := hgo
      have h1' : (i : Int) < (l.length : Int) := by omega
      have h2' : (i : Int) < 40 := by omega
      obtain ⟨o, ho⟩ : ∃ o, l[i]? = some o := ⟨_, List.getElem?_eq_getElem h1⟩
      obtain ⟨rfl, e0, e1, e2, e3, hok⟩ := (hScr.below (hlow.mono (Nat.le_refl _))).step ho
      have C := hid (hM.does hg0 o hok false)
      clear hM hlow hScr hg0 hB0 hP hQ hp hq hok ho
      go_wp2_with (
        go_at_call 24
        refine C.out.mono ?_
        rintro e w2 ⟨rfl, s2, fs, _, hm2⟩
        have HM2 := hid hm2
        clear hm2)
      go_roundw
      case rel => exact ⟨i + 1, s2, _, by simp, by omega, HM2.out⟩
      case measure =>
        show 40 - ((i : Int) + 1).toNat < 40 - ((i : Int)).toNat
        omega
    · have h1' : ¬ (i : Int) < (l.length : Int) := by omega
      obtain ⟨wf, hlen, sp, F, hD⟩ := hM
      obtain ⟨hh, B, u⟩ := wf.up
      have hO : DeskO W0 F wr bw bx (s.length : Int) 2 ⟨s, rs⟩ [(w.heap.size, .cells #[.int .i64 p.K, .int .i64 p.A, .int .i64 p.B, .int .i64 p.C] 56 (0, 0)), (w.heap.size + 1, .cells #[.int .i64 q.K, .int .i64 q.A, .int .i64 q.B, .int .i64 q.C] 56 (0, 0))] := by
        refine ⟨hD, ?_⟩
        have key : ∀ (b : Nat) (o : Obj), W0.heap[b]? = some o → wr.heap[b]? = some o ∧ ¬ F b := fun b o h => ⟨(hD.low.block _ (heap_lt h)).trans h, fun e => Nat.not_le_of_lt (heap_lt h) (hD.ge b e)⟩
        intro x hx
        simp only [List.mem_cons, List.not_mem_nil, or_false] at hx
        rcases hx with rfl | rfl
        · exact key _ _ hP
        · exact key _ _ hQ
      have CPL := hid (fun (F' : Nat → Prop) (W : World) (h : Desk W0 F' W bw bx (s.length : Int) 2 ⟨s, rs⟩) (o : StepR) (ho : StepOk o) => place_at hg0 wf h o.A o.B ho.hA ho.hB)
      have CMP := hid (fun (n k n2 k2 : Nat) (hn : n < s.length) (hk : k ≤ sizeAt s n) (hn2 : n2 < s.length) (hk2 : k2 ≤ sizeAt s n2) => pcompare_any (rs := rs) wf u n k n2 k2 hn hk hn2 hk2)
      have HU := hid (And.intro wf (And.intro u (And.intro hg0 (And.intro hlen sp))))
      have HO := hid hO
      have HPQ := hid (And.intro hp hq)
      have HB0 := hid hB0
      have P1 := cell_of_heap (hO.own _ (.head _)).1 1
      have P2 := cell_of_heap (hO.own _ (.head _)).1 2
      clear hScr hg0 hB0 hP hQ hp hq hO hD hlow wf u sp hlen hgo hi40
      go_wp2_with (first
        | (go_at_call 25
           refine (CPL.out _ _ HO.out.desk p HPQ.out.1).mono ?_
           rintro e w2 ⟨n1, k1, hn1, hk1, rfl, hkp, hdp⟩
           have HO1 := hid ((HO.out.with hkp hdp).alloc #[.int .i64 (n1 : Int), .int .i64 (k1 : Int)] 37)
           have HZ0 := hid (HO.out.with hkp hdp).desk.low.size
           have Q1 := cell_of_heap (HO1.out.own _ (.tail _ (.tail _ (.head _)))).1 1
           have Q2 := cell_of_heap (HO1.out.own _ (.tail _ (.tail _ (.head _)))).1 2
           have HN1 := hid (And.intro hn1 hk1)
           clear hkp hdp HO P1 P2 hn1 hk1)
        | (go_at_call 25
           refine (CPL.out _ _ HO1.out.desk q HPQ.out.2).mono ?_
           rintro e w3 ⟨n2, k2, hn2, hk2, rfl, hkp, hdp⟩
           have HO2 := hid (((HO1.out.with hkp hdp).alloc #[.int .i64 (n2 : Int), .int .i64 (k2 : Int)] 37).take2)
           have HZ : Hid (w2.heap.size < w3.heap.size ∧ W0.heap.size ≤ w2.heap.size) := hid ⟨by have := hkp.size; simp at this; omega, HZ0.out⟩
           have HN2 := hid (And.intro hn2 hk2)
           clear hkp hdp HO1 Q1 Q2 hn2 hk2))
      obtain ⟨W3, hW3⟩ : ∃ W, w3.alloc (.cells #[.int .i64 (n2 : Int), .int .i64 (k2 : Int)] 37) = W := ⟨_, rfl⟩
      rw [hW3] at HO2 ⊢
      clear hW3
      have PC : Hid (∀ (F' : Nat → Prop) (W : World) (rs' : List Sp) (s' : List Nd) (l' : List (Nat × Obj)) (a1 b1 a2 b2 : Nat), DeskO W0 F' W bw bx (s.length : Int) 2 ⟨s', rs'⟩ l' → (w3.heap.size, .cells #[.int .i64 (a2 : Int), .int .i64 (b2 : Int)] 37 (0, 0)) ∈ l' → (w2.heap.size, .cells #[.int .i64 (a1 : Int), .int .i64 (b1 : Int)] 37 (0, 0)) ∈ l' → W.cell? ⟨bw, 0, none⟩ = some (ptr bx) ∧ W.cell? ⟨w2.heap.size, 0, none⟩ = some (.int .i64 (a1 : Int)) ∧ W.cell? ⟨w2.heap.size, 1, none⟩ = some (.int .i64 (b1 : Int)) ∧ W.cell? ⟨w3.heap.size, 0, none⟩ = some (.int .i64 (a2 : Int)) ∧ W.cell? ⟨w3.heap.size, 1, none⟩ = some (.int .i64 (b2 : Int))) := fun F' W rs' s' l' a1 b1 a2 b2 h hq0 hp0 =>
        have hq' := (h.own _ hq0).1
        have hp' := (h.own _ hp0).1
        ⟨h.desk.cells.1, cell_of_heap hp' 0, cell_of_heap hp' 1, cell_of_heap hq' 0, cell_of_heap hq' 1⟩
      have KP0 := hid (PC.out _ _ _ _ _ _ _ _ _ HO2.out (.head _) (.tail _ (.head _)))
      obtain ⟨v, ev, c1, G1⟩ := CMP.out n1 k1 n2 k2 HN1.out.1 HN1.out.2 HN2.out.1 HN2.out.2
      have HC := hid (cmp_cases HU.out.1 HU.out.2.1 HN1.out.1 HN1.out.2 HN2.out.1 HN2.out.2 c1)
      have D1 := hid (fun (F' : Nat → Prop) (W : World) (h : Desk W0 F' W bw bx (s.length : Int) 2 ⟨s, rs⟩) => G1 W F' bx (h.gg HU.out.2.2.1) h.doc)
      clear c1 G1 CMP CPL
      go_region_held3 (fun w' => w'.cell? ⟨bw, 0, none⟩ = some (ptr bx) ∧ w'.cell? ⟨w2.heap.size, 0, none⟩ = some (.int .i64 (n1 : Int)) ∧ w'.cell? ⟨w2.heap.size, 1, none⟩ = some (.int .i64 (k1 : Int)) ∧ w'.cell? ⟨w3.heap.size, 0, none⟩ = some (.int .i64 (n2 : Int)) ∧ w'.cell? ⟨w3.heap.size, 1, none⟩ = some (.int .i64 (k2 : Int))) (first | exact KP1.out | exact KP0.out | go_keep) ((
        go_at_call 26
        refine (D1.out _ _ HO2.out.drew.desk).mono ?_
        rintro e v1 ⟨rfl, hk, hl⟩
        have HA := hid (HO2.out.drew.next hk hl)
        have KP1 := hid (PC.out _ _ _ _ _ _ _ _ _ HA.out (.head _) (.tail _ (.head _)))
        clear hk hl))
      obtain ⟨m0, m1, m2, m3, m4⟩ := KP1.out
      clear HO2 KP0 D1 KP1
      rcases HC.out with ⟨⟨x1, x2, rfl⟩, t, i0, j0, S⟩ | ⟨rfl, hv, t, i0, j0, S⟩ | ⟨rfl, hv, t, i0, j0, S⟩
      · have hne : w2.heap.size ≠ w3.heap.size := by have := HZ.out.1; omega
        obtain ⟨HB1, HB2⟩ := HA.out.put (by have := HZ.out; omega) hne (.int .i64 (n1 : Int)) (.int .i64 (k1 : Int))
        have fr0 := frozen_of_heap (HA.out.own _ (.head _)).1 0
        have fr1 := frozen_of_heap (HB1.own _ (.head _)).1 1
        have HA0 := hid HB2
        obtain ⟨f00, f01, f02, f03, f04⟩ := PC.out _ _ _ _ _ _ _ _ _ HA0.out (.head _) (.tail _ (.head _))
        clear HB1 HB2 HA
        obtain ⟨sh, sm, sl, te, rs1, rs2, rs4, rs5, rs6, s', rs7, rs8, jp, jq, E0, E1, E2, E3, E4, E5, E6, E7, E8, E9, E10, E11, E12, E13, E14⟩ := gone_calls (w0 := W0) (bw := bw) (bx := bx) (N := (s.length : Int)) HU.out.2.2.1 HU.out.1 HU.out.2.1 HU.out.2.2.2.1 HU.out.2.2.2.2 S rfl
        have C1 := hid E1
        have C2 := hid E2
        have C3 := hid E3
        have C4 := hid E4
        have C5 := hid E5
        have C6 := hid E6
        have C7 := hid E7
        have C8 := hid E8
        have C9 := hid E9
        have C10 := hid E10
        have C11 := hid E11
        have C12 := hid E12
        have C13 := hid E13
        have C14 := hid E14
        have q1 : ¬ 9223372036854775807 < sh.size + sm.size := by omega
        have q2 : ¬ 9223372036854775807 < sh.size + sm.size + sl.size := by omega
        have q3 : ¬ 9223372036854775807 < sh.size + sl.size := by omega
        clear S HC HU HN1 HN2 HPQ E1 E2 E3 E4 E5 E6 E7 E8 E9 E10 E11 E12 E13 E14
        go_wp2_with (first
          | (go_at_call 29
             refine (C1.out _ _ HA0.out.desk).mono ?_
             rintro e v2 ⟨rfl, hk, hd⟩
             have HA1 := hid (HA0.out.with hk hd)
             obtain ⟨f10, f11, f12, f13, f14⟩ := PC.out _ _ _ _ _ _ _ _ _ HA1.out (.head _) (.tail _ (.head _))
             clear hk hd)
          | (go_at_call 36
             refine (C2.out _ _ HA1.out.desk).mono ?_
             rintro e v3 ⟨rfl, hk, hl⟩
             have HA2 := hid ((HA1.out.next hk hl).alloc #[.int .i64 (t : Int), .int .i64 0, .int .i64 (t : Int), .int .i64 te] 79)
             clear hk hl f10 f11 f12 f13 f14))
        obtain ⟨W4, hW4⟩ : ∃ W, v3.alloc (.cells #[.int .i64 (t : Int), .int .i64 0, .int .i64 (t : Int), .int .i64 te] 79) = W := ⟨_, rfl⟩
        rw [hW4] at HA2 ⊢
        clear hW4 HA0 HA1 C1 C2
        have PD : Hid (∀ (F' : Nat → Prop) (W : World) (rs' : List Sp) (s' : List Nd), DeskO W0 F' W bw bx (s.length : Int) 2 ⟨s', rs'⟩ [(v3.heap.size, .cells #[.int .i64 (t : Int), .int .i64 0, .int .i64 (t : Int), .int .i64 te] 79 (0, 0)), (w3.heap.size, .cells #[.int .i64 (n1 : Int), .int .i64 (k1 : Int)] 37 (0, 0)), (w2.heap.size, .cells #[.int .i64 (n1 : Int), .int .i64 (k1 : Int)] 37 (0, 0))] → W.cell? ⟨bw, 0, none⟩ = some (ptr bx) ∧ W.cell? ⟨w2.heap.size, 0, none⟩ = some (.int .i64 (n1 : Int)) ∧ W.cell? ⟨w2.heap.size, 1, none⟩ = some (.int .i64 (k1 : Int)) ∧ W.cell? ⟨w3.heap.size, 0, none⟩ = some (.int .i64 (n1 : Int)) ∧ W.cell? ⟨w3.heap.size, 1, none⟩ = some (.int .i64 (k1 : Int)) ∧ W.cell? ⟨v3.heap.size, 2, none⟩ = some (.int .i64 (t : Int)) ∧ W.cell? ⟨v3.heap.size, 3, none⟩ = some (.int .i64 te)) := fun F' W rs' s' h =>
          have h5 := PC.out _ _ _ _ _ _ _ _ _ h (.tail _ (.head _)) (.tail _ (.tail _ (.head _)))
          have hs := (h.own _ (.head _)).1
          ⟨h5.1, h5.2.1, h5.2.2.1, h5.2.2.2.1, h5.2.2.2.2, cell_of_heap hs 2, cell_of_heap hs 3⟩
        have KQ2 := hid (PD.out _ _ _ _ HA2.out)
        go_region_held3 (fun w' => w'.cell? ⟨bw, 0, none⟩ = some (ptr bx) ∧ w'.cell? ⟨w2.heap.size, 0, none⟩ = some (.int .i64 (n1 : Int)) ∧ w'.cell? ⟨w2.heap.size, 1, none⟩ = some (.int .i64 (k1 : Int)) ∧ w'.cell? ⟨w3.heap.size, 0, none⟩ = some (.int .i64 (n1 : Int)) ∧ w'.cell? ⟨w3.heap.size, 1, none⟩ = some (.int .i64 (k1 : Int)) ∧ w'.cell? ⟨v3.heap.size, 2, none⟩ = some (.int .i64 (t : Int)) ∧ w'.cell? ⟨v3.heap.size, 3, none⟩ = some (.int .i64 te)) (first | exact KQ3.out | exact KQ2.out | go_keep) ((
          go_at_call 32
          refine (C3.out _ _ HA2.out.drew.desk).mono ?_
          rintro e u3 ⟨rfl, hk, hl⟩
          have HA3 := hid (HA2.out.drew.next hk hl)
          have KQ3 := hid (PD.out _ _ _ _ HA3.out)
          clear hk hl))
        clear HA2 KQ2 C3
        obtain ⟨g30, g31, g32, g33, g34, g35, g36⟩ := KQ3.out
        go_wp2_with (
          go_at_call 33
          refine (C4.out _ _ HA3.out.desk).mono ?_
          rintro e u4 ⟨rfl, hk, hl⟩
          have HA4 := hid (HA3.out.next hk hl)
          have KQ4 := hid (PD.out _ _ _ _ HA4.out)
          clear hk hl)
        clear HA3 KQ3 C4
        clear g30 g31 g32 g33 g34 g35 g36
        go_region_held3 (fun w' => w'.cell? ⟨bw, 0, none⟩ = some (ptr bx) ∧ w'.cell? ⟨w2.heap.size, 0, none⟩ = some (.int .i64 (n1 : Int)) ∧ w'.cell? ⟨w2.heap.size, 1, none⟩ = some (.int .i64 (k1 : Int)) ∧ w'.cell? ⟨w3.heap.size, 0, none⟩ = some (.int .i64 (n1 : Int)) ∧ w'.cell? ⟨w3.heap.size, 1, none⟩ = some (.int .i64 (k1 : Int)) ∧ w'.cell? ⟨v3.heap.size, 2, none⟩ = some (.int .i64 (t : Int)) ∧ w'.cell? ⟨v3.heap.size, 3, none⟩ = some (.int .i64 te)) (first | exact KQ5.out | exact KQ4.out | go_keep) ((
          go_at_call 32
          refine (C5.out _ _ HA4.out.drew.desk).mono ?_
          rintro e u5 ⟨rfl, hk, hl⟩
          have HA5 := hid (HA4.out.drew.next hk hl)
          have KQ5 := hid (PD.out _ _ _ _ HA5.out)
          clear hk hl))
        clear HA4 KQ4 C5
        go_wp2
        go_region_held3 (fun w' => w'.cell? ⟨bw, 0, none⟩ = some (ptr bx) ∧ w'.cell? ⟨w2.heap.size, 0, none⟩ = some (.int .i64 (n1 : Int)) ∧ w'.cell? ⟨w2.heap.size, 1, none⟩ = some (.int .i64 (k1 : Int)) ∧ w'.cell? ⟨w3.heap.size, 0, none⟩ = some (.int .i64 (n1 : Int)) ∧ w'.cell? ⟨w3.heap.size, 1, none⟩ = some (.int .i64 (k1 : Int)) ∧ w'.cell? ⟨v3.heap.size, 2, none⟩ = some (.int .i64 (t : Int)) ∧ w'.cell? ⟨v3.heap.size, 3, none⟩ = some (.int .i64 te)) (first | exact KQ6.out | exact KQ5.out | go_keep) ((
          go_at_call 31
          refine (C6.out _ _ HA5.out.drew.desk).mono ?_
          rintro e u6 ⟨rfl, hk, hl⟩
          have HA6 := hid (HA5.out.drew.next hk hl)
          have KQ6 := hid (PD.out _ _ _ _ HA6.out)
          clear hk hl))
        clear HA5 KQ5 C6
        obtain ⟨g60, g61, g62, g63, g64, g65, g66⟩ := KQ6.out
        go_wp2_with (
          go_at_call 33
          refine (C7.out _ _ HA6.out.desk).mono ?_
          rintro e u7 ⟨rfl, hk, hl⟩
          have HA7 := hid (HA6.out.next hk hl)
          have KQ7 := hid (PD.out _ _ _ _ HA7.out)
          clear hk hl)
        clear HA6 KQ6 C7
        clear g60 g61 g62 g63 g64 g65 g66
        go_region_held3 (fun w' => w'.cell? ⟨bw, 0, none⟩ = some (ptr bx) ∧ w'.cell? ⟨w2.heap.size, 0, none⟩ = some (.int .i64 (n1 : Int)) ∧ w'.cell? ⟨w2.heap.size, 1, none⟩ = some (.int .i64 (k1 : Int)) ∧ w'.cell? ⟨w3.heap.size, 0, none⟩ = some (.int .i64 (n1 : Int)) ∧ w'.cell? ⟨w3.heap.size, 1, none⟩ = some (.int .i64 (k1 : Int)) ∧ w'.cell? ⟨v3.heap.size, 2, none⟩ = some (.int .i64 (t : Int)) ∧ w'.cell? ⟨v3.heap.size, 3, none⟩ = some (.int .i64 te)) (first | exact KQ8.out | exact KQ7.out | go_keep) ((
          go_at_call 31
          refine (C8.out _ _ HA7.out.drew.desk).mono ?_
          rintro e u8 ⟨rfl, hk, hl⟩
          have HA8 := hid (HA7.out.drew.next hk hl)
          have KQ8 := hid (PD.out _ _ _ _ HA8.out)
          clear hk hl))
        clear HA7 KQ7 C8
        go_wp2
        go_region_held3 (fun w' => w'.cell? ⟨bw, 0, none⟩ = some (ptr bx) ∧ w'.cell? ⟨w2.heap.size, 0, none⟩ = some (.int .i64 (n1 : Int)) ∧ w'.cell? ⟨w2.heap.size, 1, none⟩ = some (.int .i64 (k1 : Int)) ∧ w'.cell? ⟨w3.heap.size, 0, none⟩ = some (.int .i64 (n1 : Int)) ∧ w'.cell? ⟨w3.heap.size, 1, none⟩ = some (.int .i64 (k1 : Int)) ∧ w'.cell? ⟨v3.heap.size, 2, none⟩ = some (.int .i64 (t : Int)) ∧ w'.cell? ⟨v3.heap.size, 3, none⟩ = some (.int .i64 te)) (first | exact KQ9.out | exact KQ8.out | go_keep) ((
          go_at_call 32
          refine (C9.out _ _ HA8.out.drew.desk).mono ?_
          rintro e u9 ⟨rfl, hk, hl⟩
          have HA9 := hid (HA8.out.drew.next hk hl)
          have KQ9 := hid (PD.out _ _ _ _ HA9.out)
          clear hk hl))
        clear HA8 KQ8 C9
        obtain ⟨g90, g91, g92, g93, g94, g95, g96⟩ := KQ9.out
        have eqp := eq_place_yes (jp : Int) (jq : Int)
        have eqg := fun (x y : Operand) (w : World) => eqg_place x y (jp : Int) (jq : Int) (jp : Int) (jq : Int) w
        go_wp2_with (first
          | (go_at_call 33
             refine (C10.out _ _ HA9.out.desk).mono ?_
             rintro e u10 ⟨rfl, hk, hl⟩
             have HA10 := hid (HA9.out.next hk hl)
             have h100 := HA10.out.desk.cells.1
             clear hk hl HA9)
          | (go_at_call 37
             refine (C11.out _ _ HA10.out.desk).mono ?_
             rintro e u11 ⟨rfl, hk, hl⟩
             have HA11 := hid (HA10.out.next hk hl)
             have h110 := HA11.out.desk.cells.1
             clear hk hl HA10 h100)
          | (go_at_call 33
             refine (C12.out _ _ HA11.out.desk).mono ?_
             rintro e u12 ⟨rfl, hk, hl⟩
             have HA12 := hid (HA11.out.next hk hl)
             have h120 := HA12.out.desk.cells.1
             clear hk hl HA11 h110)
          | (go_at_call 36
             refine (C13.out _ _ HA12.out.desk).mono ?_
             rintro e u13 ⟨rfl, hk, hl⟩
             have HA13 := hid ((HA12.out.next hk hl).alloc #[.int .i64 (jp : Int), .int .i64 (jq : Int), .int .i64 (jp : Int), .int .i64 (jq : Int)] 79)
             have j0 := cell_of_heap (HA13.out.own _ (.head _)).1 0
             have j1 := cell_of_heap (HA13.out.own _ (.head _)).1 1
             clear hk hl HA12 h120)
          | (go_at_call 29
             refine (C14.out _ _ HA13.out.desk).mono ?_
             rintro e u14 ⟨rfl, hk, hd⟩
             have HA14 := hid (HA13.out.with hk hd)
             have y0 := cell_of_heap (HA14.out.own _ (.head _)).1 0
             have y1 := cell_of_heap (HA14.out.own _ (.head _)).1 1
             have y2 := cell_of_heap (HA14.out.own _ (.head _)).1 2
             have y3 := cell_of_heap (HA14.out.own _ (.head _)).1 3
             clear hk hd HA13 j0 j1))
        go_ret
        exact ⟨rfl, HB0.out.trans (HA14.out.desk.low.mono HB0.out.size)⟩
      · have hne : w2.heap.size ≠ w3.heap.size := by have := HZ.out.1; omega
        obtain ⟨HB1, HB2⟩ := HA.out.swap.put (by have := HZ.out; omega) (fun e => hne e.symm) (.int .i64 (n2 : Int)) (.int .i64 (k2 : Int))
        obtain ⟨HB3, HB4⟩ := HB2.swap.put (by have := HZ.out; omega) hne (.int .i64 (n1 : Int)) (.int .i64 (k1 : Int))
        have fr0 := frozen_of_heap (HA.out.own _ (.tail _ (.head _))).1 0
        have fr1 := frozen_of_heap (HB1.own _ (.head _)).1 1
        have fr2 := frozen_of_heap (HB2.own _ (.tail _ (.head _))).1 0
        have fr3 := frozen_of_heap (HB3.own _ (.head _)).1 1
        have HA0 := hid HB4
        obtain ⟨f00, f01, f02, f03, f04⟩ := PC.out _ _ _ _ _ _ _ _ _ HA0.out (.head _) (.tail _ (.head _))
        clear HB1 HB2 HB3 HB4 HA
        obtain ⟨sh, sm, sl, te, rs1, rs2, rs4, rs5, rs6, s', rs7, rs8, jp, jq, E0, E1, E2, E3, E4, E5, E6, E7, E8, E9, E10, E11, E12, E13, E14⟩ := gone_calls (w0 := W0) (bw := bw) (bx := bx) (N := (s.length : Int)) HU.out.2.2.1 HU.out.1 HU.out.2.1 HU.out.2.2.2.1 HU.out.2.2.2.2 S rfl
        have C1 := hid E1
        have C2 := hid E2
        have C3 := hid E3
        have C4 := hid E4
        have C5 := hid E5
        have C6 := hid E6
        have C7 := hid E7
        have C8 := hid E8
        have C9 := hid E9
        have C10 := hid E10
        have C11 := hid E11
        have C12 := hid E12
        have C13 := hid E13
        have C14 := hid E14
        have q1 : ¬ 9223372036854775807 < sh.size + sm.size := by omega
        have q2 : ¬ 9223372036854775807 < sh.size + sm.size + sl.size := by omega
        have q3 : ¬ 9223372036854775807 < sh.size + sl.size := by omega
        clear S HC HU HN1 HN2 HPQ E1 E2 E3 E4 E5 E6 E7 E8 E9 E10 E11 E12 E13 E14
        go_wp2_with (first
          | (go_at_call 29
             refine (C1.out _ _ HA0.out.desk).mono ?_
             rintro e v2 ⟨rfl, hk, hd⟩
             have HA1 := hid (HA0.out.with hk hd)
             obtain ⟨f10, f11, f12, f13, f14⟩ := PC.out _ _ _ _ _ _ _ _ _ HA1.out (.head _) (.tail _ (.head _))
             clear hk hd)
          | (go_at_call 36
             refine (C2.out _ _ HA1.out.desk).mono ?_
             rintro e v3 ⟨rfl, hk, hl⟩
             have HA2 := hid ((HA1.out.next hk hl).alloc #[.int .i64 (t : Int), .int .i64 0, .int .i64 (t : Int), .int .i64 te] 79)
             clear hk hl f10 f11 f12 f13 f14))
        obtain ⟨W4, hW4⟩ : ∃ W, v3.alloc (.cells #[.int .i64 (t : Int), .int .i64 0, .int .i64 (t : Int), .int .i64 te] 79) = W := ⟨_, rfl⟩
        rw [hW4] at HA2 ⊢
        clear hW4 HA0 HA1 C1 C2
        have PD : Hid (∀ (F' : Nat → Prop) (W : World) (rs' : List Sp) (s' : List Nd), DeskO W0 F' W bw bx (s.length : Int) 2 ⟨s', rs'⟩ [(v3.heap.size, .cells #[.int .i64 (t : Int), .int .i64 0, .int .i64 (t : Int), .int .i64 te] 79 (0, 0)), (w3.heap.size, .cells #[.int .i64 (n1 : Int), .int .i64 (k1 : Int)] 37 (0, 0)), (w2.heap.size, .cells #[.int .i64 (n2 : Int), .int .i64 (k2 : Int)] 37 (0, 0))] → W.cell? ⟨bw, 0, none⟩ = some (ptr bx) ∧ W.cell? ⟨w2.heap.size, 0, none⟩ = some (.int .i64 (n2 : Int)) ∧ W.cell? ⟨w2.heap.size, 1, none⟩ = some (.int .i64 (k2 : Int)) ∧ W.cell? ⟨w3.heap.size, 0, none⟩ = some (.int .i64 (n1 : Int)) ∧ W.cell? ⟨w3.heap.size, 1, none⟩ = some (.int .i64 (k1 : Int)) ∧ W.cell? ⟨v3.heap.size, 2, none⟩ = some (.int .i64 (t : Int)) ∧ W.cell? ⟨v3.heap.size, 3, none⟩ = some (.int .i64 te)) := fun F' W rs' s' h =>
          have h5 := PC.out _ _ _ _ _ _ _ _ _ h (.tail _ (.head _)) (.tail _ (.tail _ (.head _)))
          have hs := (h.own _ (.head _)).1
          ⟨h5.1, h5.2.1, h5.2.2.1, h5.2.2.2.1, h5.2.2.2.2, cell_of_heap hs 2, cell_of_heap hs 3⟩
        have KQ2 := hid (PD.out _ _ _ _ HA2.out)
        go_region_held3 (fun w' => w'.cell? ⟨bw, 0, none⟩ = some (ptr bx) ∧ w'.cell? ⟨w2.heap.size, 0, none⟩ = some (.int .i64 (n2 : Int)) ∧ w'.cell? ⟨w2.heap.size, 1, none⟩ = some (.int .i64 (k2 : Int)) ∧ w'.cell? ⟨w3.heap.size, 0, none⟩ = some (.int .i64 (n1 : Int)) ∧ w'.cell? ⟨w3.heap.size, 1, none⟩ = some (.int .i64 (k1 : Int)) ∧ w'.cell? ⟨v3.heap.size, 2, none⟩ = some (.int .i64 (t : Int)) ∧ w'.cell? ⟨v3.heap.size, 3, none⟩ = some (.int .i64 te)) (first | exact KQ3.out | exact KQ2.out | go_keep) ((
          go_at_call 32
          refine (C3.out _ _ HA2.out.drew.desk).mono ?_
          rintro e u3 ⟨rfl, hk, hl⟩
          have HA3 := hid (HA2.out.drew.next hk hl)
          have KQ3 := hid (PD.out _ _ _ _ HA3.out)
          clear hk hl))
        clear HA2 KQ2 C3
        obtain ⟨g30, g31, g32, g33, g34, g35, g36⟩ := KQ3.out
        go_wp2_with (
          go_at_call 33
          refine (C4.out _ _ HA3.out.desk).mono ?_
          rintro e u4 ⟨rfl, hk, hl⟩
          have HA4 := hid (HA3.out.next hk hl)
          have KQ4 := hid (PD.out _ _ _ _ HA4.out)
          clear hk hl)
        clear HA3 KQ3 C4
        clear g30 g31 g32 g33 g34 g35 g36
        go_region_held3 (fun w' => w'.cell? ⟨bw, 0, none⟩ = some (ptr bx) ∧ w'.cell? ⟨w2.heap.size, 0, none⟩ = some (.int .i64 (n2 : Int)) ∧ w'.cell? ⟨w2.heap.size, 1, none⟩ = some (.int .i64 (k2 : Int)) ∧ w'.cell? ⟨w3.heap.size, 0, none⟩ = some (.int .i64 (n1 : Int)) ∧ w'.cell? ⟨w3.heap.size, 1, none⟩ = some (.int .i64 (k1 : Int)) ∧ w'.cell? ⟨v3.heap.size, 2, none⟩ = some (.int .i64 (t : Int)) ∧ w'.cell? ⟨v3.heap.size, 3, none⟩ = some (.int .i64 te)) (first | exact KQ5.out | exact KQ4.out | go_keep) ((
          go_at_call 32
          refine (C5.out _ _ HA4.out.drew.desk).mono ?_
          rintro e u5 ⟨rfl, hk, hl⟩
          have HA5 := hid (HA4.out.drew.next hk hl)
          have KQ5 := hid (PD.out _ _ _ _ HA5.out)
          clear hk hl))
        clear HA4 KQ4 C5
        go_wp2
        go_region_held3 (fun w' => w'.cell? ⟨bw, 0, none⟩ = some (ptr bx) ∧ w'.cell? ⟨w2.heap.size, 0, none⟩ = some (.int .i64 (n2 : Int)) ∧ w'.cell? ⟨w2.heap.size, 1, none⟩ = some (.int .i64 (k2 : Int)) ∧ w'.cell? ⟨w3.heap.size, 0, none⟩ = some (.int .i64 (n1 : Int)) ∧ w'.cell? ⟨w3.heap.size, 1, none⟩ = some (.int .i64 (k1 : Int)) ∧ w'.cell? ⟨v3.heap.size, 2, none⟩ = some (.int .i64 (t : Int)) ∧ w'.cell? ⟨v3.heap.size, 3, none⟩ = some (.int .i64 te)) (first | exact KQ6.out | exact KQ5.out | go_keep) ((
          go_at_call 31
          refine (C6.out _ _ HA5.out.drew.desk).mono ?_
          rintro e u6 ⟨rfl, hk, hl⟩
          have HA6 := hid (HA5.out.drew.next hk hl)
          have KQ6 := hid (PD.out _ _ _ _ HA6.out)
          clear hk hl))
        clear HA5 KQ5 C6
        obtain ⟨g60, g61, g62, g63, g64, g65, g66⟩ := KQ6.out
        go_wp2_with (
          go_at_call 33
          refine (C7.out _ _ HA6.out.desk).mono ?_
          rintro e u7 ⟨rfl, hk, hl⟩
          have HA7 := hid (HA6.out.next hk hl)
          have KQ7 := hid (PD.out _ _ _ _ HA7.out)
          clear hk hl)
        clear HA6 KQ6 C7
        clear g60 g61 g62 g63 g64 g65 g66
        go_region_held3 (fun w' => w'.cell? ⟨bw, 0, none⟩ = some (ptr bx) ∧ w'.cell? ⟨w2.heap.size, 0, none⟩ = some (.int .i64 (n2 : Int)) ∧ w'.cell? ⟨w2.heap.size, 1, none⟩ = some (.int .i64 (k2 : Int)) ∧ w'.cell? ⟨w3.heap.size, 0, none⟩ = some (.int .i64 (n1 : Int)) ∧ w'.cell? ⟨w3.heap.size, 1, none⟩ = some (.int .i64 (k1 : Int)) ∧ w'.cell? ⟨v3.heap.size, 2, none⟩ = some (.int .i64 (t : Int)) ∧ w'.cell? ⟨v3.heap.size, 3, none⟩ = some (.int .i64 te)) (first | exact KQ8.out | exact KQ7.out | go_keep) ((
          go_at_call 31
          refine (C8.out _ _ HA7.out.drew.desk).mono ?_
          rintro e u8 ⟨rfl, hk, hl⟩
          have HA8 := hid (HA7.out.drew.next hk hl)
          have KQ8 := hid (PD.out _ _ _ _ HA8.out)
          clear hk hl))
        clear HA7 KQ7 C8
        go_wp2
        go_region_held3 (fun w' => w'.cell? ⟨bw, 0, none⟩ = some (ptr bx) ∧ w'.cell? ⟨w2.heap.size, 0, none⟩ = some (.int .i64 (n2 : Int)) ∧ w'.cell? ⟨w2.heap.size, 1, none⟩ = some (.int .i64 (k2 : Int)) ∧ w'.cell? ⟨w3.heap.size, 0, none⟩ = some (.int .i64 (n1 : Int)) ∧ w'.cell? ⟨w3.heap.size, 1, none⟩ = some (.int .i64 (k1 : Int)) ∧ w'.cell? ⟨v3.heap.size, 2, none⟩ = some (.int .i64 (t : Int)) ∧ w'.cell? ⟨v3.heap.size, 3, none⟩ = some (.int .i64 te)) (first | exact KQ9.out | exact KQ8.out | go_keep) ((
          go_at_call 32
          refine (C9.out _ _ HA8.out.drew.desk).mono ?_
          rintro e u9 ⟨rfl, hk, hl⟩
          have HA9 := hid (HA8.out.drew.next hk hl)
          have KQ9 := hid (PD.out _ _ _ _ HA9.out)
          clear hk hl))
        clear HA8 KQ8 C9
        obtain ⟨g90, g91, g92, g93, g94, g95, g96⟩ := KQ9.out
        have eqp := eq_place_yes (jp : Int) (jq : Int)
        have eqg := fun (x y : Operand) (w : World) => eqg_place x y (jp : Int) (jq : Int) (jp : Int) (jq : Int) w
        go_wp2_with (first
          | (go_at_call 33
             refine (C10.out _ _ HA9.out.desk).mono ?_
             rintro e u10 ⟨rfl, hk, hl⟩
             have HA10 := hid (HA9.out.next hk hl)
             have h100 := HA10.out.desk.cells.1
             clear hk hl HA9)
          | (go_at_call 37
             refine (C11.out _ _ HA10.out.desk).mono ?_
             rintro e u11 ⟨rfl, hk, hl⟩
             have HA11 := hid (HA10.out.next hk hl)
             have h110 := HA11.out.desk.cells.1
             clear hk hl HA10 h100)
          | (go_at_call 33
             refine (C12.out _ _ HA11.out.desk).mono ?_
             rintro e u12 ⟨rfl, hk, hl⟩
             have HA12 := hid (HA11.out.next hk hl)
             have h120 := HA12.out.desk.cells.1
             clear hk hl HA11 h110)
          | (go_at_call 36
             refine (C13.out _ _ HA12.out.desk).mono ?_
             rintro e u13 ⟨rfl, hk, hl⟩
             have HA13 := hid ((HA12.out.next hk hl).alloc #[.int .i64 (jp : Int), .int .i64 (jq : Int), .int .i64 (jp : Int), .int .i64 (jq : Int)] 79)
             have j0 := cell_of_heap (HA13.out.own _ (.head _)).1 0
             have j1 := cell_of_heap (HA13.out.own _ (.head _)).1 1
             clear hk hl HA12 h120)
          | (go_at_call 29
             refine (C14.out _ _ HA13.out.desk).mono ?_
             rintro e u14 ⟨rfl, hk, hd⟩
             have HA14 := hid (HA13.out.with hk hd)
             have y0 := cell_of_heap (HA14.out.own _ (.head _)).1 0
             have y1 := cell_of_heap (HA14.out.own _ (.head _)).1 1
             have y2 := cell_of_heap (HA14.out.own _ (.head _)).1 2
             have y3 := cell_of_heap (HA14.out.own _ (.head _)).1 3
             clear hk hd HA13 j0 j1))
        go_ret
        exact ⟨rfl, HB0.out.trans (HA14.out.desk.low.mono HB0.out.size)⟩
      · have hv' : ¬ (0 : Int) < v := by omega
        have HA0 := HA
        obtain ⟨sh, sm, sl, te, rs1, rs2, rs4, rs5, rs6, s', rs7, rs8, jp, jq, E0, E1, E2, E3, E4, E5, E6, E7, E8, E9, E10, E11, E12, E13, E14⟩ := gone_calls (w0 := W0) (bw := bw) (bx := bx) (N := (s.length : Int)) HU.out.2.2.1 HU.out.1 HU.out.2.1 HU.out.2.2.2.1 HU.out.2.2.2.2 S rfl
        have C1 := hid E1
        have C2 := hid E2
        have C3 := hid E3
        have C4 := hid E4
        have C5 := hid E5
        have C6 := hid E6
        have C7 := hid E7
        have C8 := hid E8
        have C9 := hid E9
        have C10 := hid E10
        have C11 := hid E11
        have C12 := hid E12
        have C13 := hid E13
        have C14 := hid E14
        have q1 : ¬ 9223372036854775807 < sh.size + sm.size := by omega
        have q2 : ¬ 9223372036854775807 < sh.size + sm.size + sl.size := by omega
        have q3 : ¬ 9223372036854775807 < sh.size + sl.size := by omega
        clear S HC HU HN1 HN2 HPQ E1 E2 E3 E4 E5 E6 E7 E8 E9 E10 E11 E12 E13 E14
        go_wp2_with (first
          | (go_at_call 29
             refine (C1.out _ _ HA0.out.desk).mono ?_
             rintro e v2 ⟨rfl, hk, hd⟩
             have HA1 := hid (HA0.out.with hk hd)
             obtain ⟨f10, f11, f12, f13, f14⟩ := PC.out _ _ _ _ _ _ _ _ _ HA1.out (.head _) (.tail _ (.head _))
             clear hk hd)
          | (go_at_call 36
             refine (C2.out _ _ HA1.out.desk).mono ?_
             rintro e v3 ⟨rfl, hk, hl⟩
             have HA2 := hid ((HA1.out.next hk hl).alloc #[.int .i64 (t : Int), .int .i64 0, .int .i64 (t : Int), .int .i64 te] 79)
             clear hk hl f10 f11 f12 f13 f14))
        obtain ⟨W4, hW4⟩ : ∃ W, v3.alloc (.cells #[.int .i64 (t : Int), .int .i64 0, .int .i64 (t : Int), .int .i64 te] 79) = W := ⟨_, rfl⟩
        rw [hW4] at HA2 ⊢
        clear hW4 HA0 HA1 C1 C2
        have PD : Hid (∀ (F' : Nat → Prop) (W : World) (rs' : List Sp) (s' : List Nd), DeskO W0 F' W bw bx (s.length : Int) 2 ⟨s', rs'⟩ [(v3.heap.size, .cells #[.int .i64 (t : Int), .int .i64 0, .int .i64 (t : Int), .int .i64 te] 79 (0, 0)), (w3.heap.size, .cells #[.int .i64 (n2 : Int), .int .i64 (k2 : Int)] 37 (0, 0)), (w2.heap.size, .cells #[.int .i64 (n1 : Int), .int .i64 (k1 : Int)] 37 (0, 0))] → W.cell? ⟨bw, 0, none⟩ = some (ptr bx) ∧ W.cell? ⟨w2.heap.size, 0, none⟩ = some (.int .i64 (n1 : Int)) ∧ W.cell? ⟨w2.heap.size, 1, none⟩ = some (.int .i64 (k1 : Int)) ∧ W.cell? ⟨w3.heap.size, 0, none⟩ = some (.int .i64 (n2 : Int)) ∧ W.cell? ⟨w3.heap.size, 1, none⟩ = some (.int .i64 (k2 : Int)) ∧ W.cell? ⟨v3.heap.size, 2, none⟩ = some (.int .i64 (t : Int)) ∧ W.cell? ⟨v3.heap.size, 3, none⟩ = some (.int .i64 te)) := fun F' W rs' s' h =>
          have h5 := PC.out _ _ _ _ _ _ _ _ _ h (.tail _ (.head _)) (.tail _ (.tail _ (.head _)))
          have hs := (h.own _ (.head _)).1
          ⟨h5.1, h5.2.1, h5.2.2.1, h5.2.2.2.1, h5.2.2.2.2, cell_of_heap hs 2, cell_of_heap hs 3⟩
        have KQ2 := hid (PD.out _ _ _ _ HA2.out)
        go_region_held3 (fun w' => w'.cell? ⟨bw, 0, none⟩ = some (ptr bx) ∧ w'.cell? ⟨w2.heap.size, 0, none⟩ = some (.int .i64 (n1 : Int)) ∧ w'.cell? ⟨w2.heap.size, 1, none⟩ = some (.int .i64 (k1 : Int)) ∧ w'.cell? ⟨w3.heap.size, 0, none⟩ = some (.int .i64 (n2 : Int)) ∧ w'.cell? ⟨w3.heap.size, 1, none⟩ = some (.int .i64 (k2 : Int)) ∧ w'.cell? ⟨v3.heap.size, 2, none⟩ = some (.int .i64 (t : Int)) ∧ w'.cell? ⟨v3.heap.size, 3, none⟩ = some (.int .i64 te)) (first | exact KQ3.out | exact KQ2.out | go_keep) ((
          go_at_call 32
          refine (C3.out _ _ HA2.out.drew.desk).mono ?_
          rintro e u3 ⟨rfl, hk, hl⟩
          have HA3 := hid (HA2.out.drew.next hk hl)
          have KQ3 := hid (PD.out _ _ _ _ HA3.out)
          clear hk hl))
        clear HA2 KQ2 C3
        obtain ⟨g30, g31, g32, g33, g34, g35, g36⟩ := KQ3.out
        go_wp2_with (
          go_at_call 33
          refine (C4.out _ _ HA3.out.desk).mono ?_
          rintro e u4 ⟨rfl, hk, hl⟩
          have HA4 := hid (HA3.out.next hk hl)
          have KQ4 := hid (PD.out _ _ _ _ HA4.out)
          clear hk hl)
        clear HA3 KQ3 C4
        clear g30 g31 g32 g33 g34 g35 g36
        go_region_held3 (fun w' => w'.cell? ⟨bw, 0, none⟩ = some (ptr bx) ∧ w'.cell? ⟨w2.heap.size, 0, none⟩ = some (.int .i64 (n1 : Int)) ∧ w'.cell? ⟨w2.heap.size, 1, none⟩ = some (.int .i64 (k1 : Int)) ∧ w'.cell? ⟨w3.heap.size, 0, none⟩ = some (.int .i64 (n2 : Int)) ∧ w'.cell? ⟨w3.heap.size, 1, none⟩ = some (.int .i64 (k2 : Int)) ∧ w'.cell? ⟨v3.heap.size, 2, none⟩ = some (.int .i64 (t : Int)) ∧ w'.cell? ⟨v3.heap.size, 3, none⟩ = some (.int .i64 te)) (first | exact KQ5.out | exact KQ4.out | go_keep) ((
          go_at_call 32
          refine (C5.out _ _ HA4.out.drew.desk).mono ?_
          rintro e u5 ⟨rfl, hk, hl⟩
          have HA5 := hid (HA4.out.drew.next hk hl)
          have KQ5 := hid (PD.out _ _ _ _ HA5.out)
          clear hk hl))
        clear HA4 KQ4 C5
        go_wp2
        go_region_held3 (fun w' => w'.cell? ⟨bw, 0, none⟩ = some (ptr bx) ∧ w'.cell? ⟨w2.heap.size, 0, none⟩ = some (.int .i64 (n1 : Int)) ∧ w'.cell? ⟨w2.heap.size, 1, none⟩ = some (.int .i64 (k1 : Int)) ∧ w'.cell? ⟨w3.heap.size, 0, none⟩ = some (.int .i64 (n2 : Int)) ∧ w'.cell? ⟨w3.heap.size, 1, none⟩ = some (.int .i64 (k2 : Int)) ∧ w'.cell? ⟨v3.heap.size, 2, none⟩ = some (.int .i64 (t : Int)) ∧ w'.cell? ⟨v3.heap.size, 3, none⟩ = some (.int .i64 te)) (first | exact KQ6.out | exact KQ5.out | go_keep) ((
          go_at_call 31
          refine (C6.out _ _ HA5.out.drew.desk).mono ?_
          rintro e u6 ⟨rfl, hk, hl⟩
          have HA6 := hid (HA5.out.drew.next hk hl)
          have KQ6 := hid (PD.out _ _ _ _ HA6.out)
          clear hk hl))
        clear HA5 KQ5 C6
        obtain ⟨g60, g61, g62, g63, g64, g65, g66⟩ := KQ6.out
        go_wp2_with (
          go_at_call 33
          refine (C7.out _ _ HA6.out.desk).mono ?_
          rintro e u7 ⟨rfl, hk, hl⟩
          have HA7 := hid (HA6.out.next hk hl)
          have KQ7 := hid (PD.out _ _ _ _ HA7.out)
          clear hk hl)
        clear HA6 KQ6 C7
        clear g60 g61 g62 g63 g64 g65 g66
        go_region_held3 (fun w' => w'.cell? ⟨bw, 0, none⟩ = some (ptr bx) ∧ w'.cell? ⟨w2.heap.size, 0, none⟩ = some (.int .i64 (n1 : Int)) ∧ w'.cell? ⟨w2.heap.size, 1, none⟩ = some (.int .i64 (k1 : Int)) ∧ w'.cell? ⟨w3.heap.size, 0, none⟩ = some (.int .i64 (n2 : Int)) ∧ w'.cell? ⟨w3.heap.size, 1, none⟩ = some (.int .i64 (k2 : Int)) ∧ w'.cell? ⟨v3.heap.size, 2, none⟩ = some (.int .i64 (t : Int)) ∧ w'.cell? ⟨v3.heap.size, 3, none⟩ = some (.int .i64 te)) (first | exact KQ8.out | exact KQ7.out | go_keep) ((
          go_at_call 31
          refine (C8.out _ _ HA7.out.drew.desk).mono ?_
          rintro e u8 ⟨rfl, hk, hl⟩
          have HA8 := hid (HA7.out.drew.next hk hl)
          have KQ8 := hid (PD.out _ _ _ _ HA8.out)
          clear hk hl))
        clear HA7 KQ7 C8
        go_wp2
        go_region_held3 (fun w' => w'.cell? ⟨bw, 0, none⟩ = some (ptr bx) ∧ w'.cell? ⟨w2.heap.size, 0, none⟩ = some (.int .i64 (n1 : Int)) ∧ w'.cell? ⟨w2.heap.size, 1, none⟩ = some (.int .i64 (k1 : Int)) ∧ w'.cell? ⟨w3.heap.size, 0, none⟩ = some (.int .i64 (n2 : Int)) ∧ w'.cell? ⟨w3.heap.size, 1, none⟩ = some (.int .i64 (k2 : Int)) ∧ w'.cell? ⟨v3.heap.size, 2, none⟩ = some (.int .i64 (t : Int)) ∧ w'.cell? ⟨v3.heap.size, 3, none⟩ = some (.int .i64 te)) (first | exact KQ9.out | exact KQ8.out | go_keep) ((
          go_at_call 32
          refine (C9.out _ _ HA8.out.drew.desk).mono ?_
          rintro e u9 ⟨rfl, hk, hl⟩
          have HA9 := hid (HA8.out.drew.next hk hl)
          have KQ9 := hid (PD.out _ _ _ _ HA9.out)
          clear hk hl))
        clear HA8 KQ8 C9
        obtain ⟨g90, g91, g92, g93, g94, g95, g96⟩ := KQ9.out
        have eqp := eq_place_yes (jp : Int) (jq : Int)
        have eqg := fun (x y : Operand) (w : World) => eqg_place x y (jp : Int) (jq : Int) (jp : Int) (jq : Int) w
        go_wp2_with (first
          | (go_at_call 33
             refine (C10.out _ _ HA9.out.desk).mono ?_
             rintro e u10 ⟨rfl, hk, hl⟩
             have HA10 := hid (HA9.out.next hk hl)
             have h100 := HA10.out.desk.cells.1
             clear hk hl HA9)
          | (go_at_call 37
             refine (C11.out _ _ HA10.out.desk).mono ?_
             rintro e u11 ⟨rfl, hk, hl⟩
             have HA11 := hid (HA10.out.next hk hl)
             have h110 := HA11.out.desk.cells.1
             clear hk hl HA10 h100)
          | (go_at_call 33
             refine (C12.out _ _ HA11.out.desk).mono ?_
             rintro e u12 ⟨rfl, hk, hl⟩
             have HA12 := hid (HA11.out.next hk hl)
             have h120 := HA12.out.desk.cells.1
             clear hk hl HA11 h110)
          | (go_at_call 36
             refine (C13.out _ _ HA12.out.desk).mono ?_
             rintro e u13 ⟨rfl, hk, hl⟩
             have HA13 := hid ((HA12.out.next hk hl).alloc #[.int .i64 (jp : Int), .int .i64 (jq : Int), .int .i64 (jp : Int), .int .i64 (jq : Int)] 79)
             have j0 := cell_of_heap (HA13.out.own _ (.head _)).1 0
             have j1 := cell_of_heap (HA13.out.own _ (.head _)).1 1
             clear hk hl HA12 h120)
          | (go_at_call 29
             refine (C14.out _ _ HA13.out.desk).mono ?_
             rintro e u14 ⟨rfl, hk, hd⟩
             have HA14 := hid (HA13.out.with hk hd)
             have y0 := cell_of_heap (HA14.out.own _ (.head _)).1 0
             have y1 := cell_of_heap (HA14.out.own _ (.head _)).1 1
             have y2 := cell_of_heap (HA14.out.own _ (.head _)).1 2
             have y3 := cell_of_heap (HA14.out.own _ (.head _)).1 3
             clear hk hd HA13 j0 j1))
        go_ret
        exact ⟨rfl, HB0.out.trans (HA14.out.desk.low.mono HB0.out.size)⟩
end Go.Proofs.YtabogkonklplcaaGreatDoor
