import Derived.Test.YtabogkonklplcaaGreatDoorK46
import Derived.Test.YtabogkonklplcaaGreatDoorK44

namespace Go.Proofs.YtabogkonklplcaaGreatDoor
open Go.RowKit
set_option linter.unusedSimpArgs false
set_option linter.unusedVariables false
theorem quo9 (K : Int) (h : I64 K) : I64 (K.tdiv 9) := by
  obtain ⟨h1, h2⟩ := h
  by_cases h0 : 0 ≤ K
  · rw [Int.tdiv_eq_ediv_of_nonneg h0]
    constructor <;> omega
  · have e : K.tdiv 9 = -((-K) / 9) := by
      rw [← Int.tdiv_eq_ediv_of_nonneg (show 0 ≤ -K by omega), Int.neg_tdiv, Int.neg_neg]
    rw [e]
    constructor <;> omega
theorem Mid.sp_set {s : List Nd} {rs : List Sp} {r : Nat} {z : Sp} (h : ∀ z ∈ rs, SpIs s z) (hz : SpIs s z) : ∀ y ∈ rs.set r z, SpIs s y := by
  intro y hy
  rcases List.mem_or_eq_of_mem_set hy with hy | rfl
  · exact h y hy
  · exact hz
set_option maxRecDepth 20000 in
set_option maxHeartbeats 8000000 in
theorem living_any {w : World} (hg : GG w) (a : Option Addr) (g off c : Nat) (l : List StepR) (hS : ScrAt w a g off l) :
    Calls Tryz.prog 12 #[.slice a l.length c] w fun e w' => e = .returned (.bool true) ∧ Below w.heap.size w w' := by
  have C0 := hid (laid_at hg)
  have HH := hid (And.intro hS hg)
  clear hS hg
  go_enter Tryz.func12, Tryz.ntmps12
  go_wp2_with (
    go_at_call 23
    refine C0.out.mono ?_
    rintro e w1 ⟨F1, bw, bx, rfl, hd1⟩
    have HD1 := hid hd1
    clear hd1)
  clear C0
  go_loopw [4, 5] (fun t4 t5 wr => ∃ (i : Nat) (s : List Nd) (rs : List Sp), t4 = .bool true ∧ t5 = .int .i64 (i : Int) ∧ i ≤ 60 ∧ Mid w wr bw bx s rs) (fun _ t _ => leftN 60 t)
  case atStart => exact ⟨0, ndS, rsS, rfl, rfl, by omega, mid_laid HD1.out⟩
  case round =>
    clear HD1
    obtain ⟨i, s, rs, rfl, rfl, hi60, hM⟩ := hrel
    obtain ⟨hScr, hg⟩ := HH.out
    by_cases hgo : i < l.length ∧ i < 60
    · obtain ⟨h1, h2⟩ := hgo
      have h1' : (i : Int) < (l.length : Int) := by omega
      have h2' : (i : Int) < 60 := by omega
      obtain ⟨o, ho⟩ : ∃ o, l[i]? = some o := ⟨_, List.getElem?_eq_getElem h1⟩
      obtain ⟨F, hD⟩ := hM.desk
      obtain ⟨rfl, e0, e1, e2, e3, hok⟩ := (hScr.below hD.low).step ho
      obtain ⟨wf, hlen, sp, _⟩ := hM
      obtain ⟨hh, B, u⟩ := wf.up
      have hO := hD.o.alloc #[.int .i64 o.K, .int .i64 o.A, .int .i64 o.B, .int .i64 o.C] 56
      obtain ⟨r, hr⟩ : ∃ r, pickM o.C 2 = r := ⟨_, rfl⟩
      have hr2 : r < 2 := hr ▸ pickM_lt o.C (by decide)
      obtain ⟨x, hx⟩ : ∃ x, rs[r]? = some x := ⟨_, List.getElem?_eq_getElem (by omega)⟩
      have CPR : Hid (∀ W : World, Calls Tryz.prog 27 #[.int .i64 o.C, .int .i64 2] W fun e w' => e = .returned (.int .i64 (r : Int)) ∧ w' = W) := fun W => by
        have := pick_is o.C hok.hC 2 (by decide) (by decide) W
        rw [hr] at this
        exact this
      have hq := quo9 o.K hok.hK
      have hwq : IntKind.i64.wrap (o.K.tdiv 9) = o.K.tdiv 9 := IntWalk.i64_in _ hq
      obtain ⟨kd, hkd⟩ : ∃ r, pickM (o.K.tdiv 9) 8 = r := ⟨_, rfl⟩
      have CPL := hid (fun (F' : Nat → Prop) (W : World) (h : Desk w F' W bw bx (s.length : Int) 2 ⟨s, rs⟩) => place_at hg wf h o.A o.B hok.hA hok.hB)
      have HO := hid hO
      have t0 := cell_of_heap (hO.own _ (.head _)).1 0
      have t1 := cell_of_heap (hO.own _ (.head _)).1 1
      have t2 := cell_of_heap (hO.own _ (.head _)).1 2
      have t3 := cell_of_heap (hO.own _ (.head _)).1 3
      have HX := hid (And.intro wf (And.intro hlen (And.intro sp (And.intro u (And.intro hg (And.intro hx hok))))))
      have HKD := hid (And.intro hkd hq)
      clear hScr hg hD hO wf hlen sp u hx hok ho hr hq
      rcases (show kd = 0 ∨ kd = 1 ∨ kd = 2 ∨ 3 ≤ kd by omega) with rfl | rfl | rfl | hk3
      · have CPK : Hid (∀ W : World, Calls Tryz.prog 27 #[.int .i64 (o.K.tdiv 9), .int .i64 8] W fun e w' => e = .returned (.int .i64 0) ∧ w' = W) := fun W => by
          have := pick_is (o.K.tdiv 9) HKD.out.2 8 (by decide) (by decide) W
          rw [HKD.out.1] at this
          exact this
        go_wp2_with (first
          | (go_at_call 27
             refine (CPR.out _).mono ?_
             rintro e w' ⟨rfl, rfl⟩
             clear CPR)
          | (go_at_call 27
             refine (CPK.out _).mono ?_
             rintro e w' ⟨rfl, rfl⟩
             clear CPK)
          | (go_at_call 25
             refine (CPL.out _ _ HO.out.desk).mono ?_
             rintro e w2 ⟨n, k, hn, hk, rfl, hkp, hdp⟩
             have HO1 := hid ((HO.out.with hkp hdp).alloc #[.int .i64 (n : Int), .int .i64 (k : Int)] 37)
             have HN := hid (And.intro hn hk)
             have s0 := cell_of_heap (HO1.out.own _ (.tail _ (.head _))).1 0
             have s1 := cell_of_heap (HO1.out.own _ (.tail _ (.head _))).1 1
             have s2 := cell_of_heap (HO1.out.own _ (.tail _ (.head _))).1 2
             have s3 := cell_of_heap (HO1.out.own _ (.tail _ (.head _))).1 3
             have p0 := cell_of_heap (HO1.out.own _ (.head _)).1 0
             have p1 := cell_of_heap (HO1.out.own _ (.head _)).1 1
             have d0 := HO1.out.desk.cells.1
             clear hkp hdp hn hk t0 t1 t2 t3 HO CPL))
        obtain ⟨⟨za, zb, zc, zd⟩, hz1, hz2, hzs, _, CSS⟩ := pstart_ok spIs_lives HX.out.1 HX.out.2.2.2.1 (show rs.length ≤ 6 by have := HX.out.2.1; omega) HX.out.2.2.1 r n k x HX.out.2.2.2.2.2.1 HN.out.1 HN.out.2
        obtain rfl : za = (n : Int) := hz1
        obtain rfl : zb = (k : Int) := hz2
        have hsp' : ∀ y ∈ rs.set r ⟨n, k, zc, zd⟩, SpIs s y := Mid.sp_set HX.out.2.2.1 hzs
        have hxr : (rs.set r ⟨n, k, zc, zd⟩)[r]? = some ⟨n, k, zc, zd⟩ := by
          have := HX.out.2.1
          rw [List.getElem?_set_self (by omega)]
        have CST : Hid (∀ (F' : Nat → Prop) (W : World), Desk w F' W bw bx (s.length : Int) 2 ⟨s, rs⟩ → Calls Tryz.prog 31 #[ptr bx, .int .i64 (r : Int), .agg #[.int .i64 (n : Int), .int .i64 (k : Int)]] W (PLPost F' W bx ⟨s, rs.set r ⟨n, k, zc, zd⟩⟩ .nilIface)) := fun F' W h => by
          have := CSS W F' bx (h.gg HX.out.2.2.2.2.1) h.doc
          rw [show errV 0 0 = .nilIface from by simp [errV]] at this
          exact this
        have CSP := hid (fun (F' : Nat → Prop) (W : World) (h : Desk w F' W bw bx (s.length : Int) 2 ⟨s, rs.set r ⟨n, k, zc, zd⟩⟩) => pspan_ok (h.gg HX.out.2.2.2.2.1) h.doc r _ hxr)
        have hlen' : (rs.set r ⟨n, k, zc, zd⟩).length = 2 := by rw [List.length_set]; exact HX.out.2.1
        obtain ⟨x0v, hx0⟩ : ∃ x, (rs.set r ⟨n, k, zc, zd⟩)[0]? = some x := ⟨_, List.getElem?_eq_getElem (by omega)⟩
        obtain ⟨x1v, hx1⟩ : ∃ x, (rs.set r ⟨n, k, zc, zd⟩)[1]? = some x := ⟨_, List.getElem?_eq_getElem (by omega)⟩
        have CL0 := hid (fun (F' : Nat → Prop) (W : World) (h : Desk w F' W bw bx ((s.length : Int)) 2 ⟨s, rs.set r ⟨n, k, zc, zd⟩⟩) => living_at HX.out.2.2.2.2.1 HX.out.1 h 0 x0v hx0 (hsp' _ (List.mem_of_getElem? hx0)))
        have CL1 := hid (fun (F' : Nat → Prop) (W : World) (h : Desk w F' W bw bx ((s.length : Int)) 2 ⟨s, rs.set r ⟨n, k, zc, zd⟩⟩) => living_at HX.out.2.2.2.2.1 HX.out.1 h 1 x1v hx1 (hsp' _ (List.mem_of_getElem? hx1)))
        have eqp := eq_place_yes (n : Int) (k : Int)
        have eqg := fun (x y : Operand) (w : World) => eqg_place x y (n : Int) (k : Int) (n : Int) (k : Int) w
        have HSP := hid (And.intro hsp' hlen')
        clear CSS hzs hsp' hxr hx0 hx1 hlen' s0 s1 s2 s3
        obtain ⟨W2, hW2⟩ : ∃ W, w2.alloc (.cells #[.int .i64 (n : Int), .int .i64 (k : Int)] 37) = W := ⟨_, rfl⟩
        rw [hW2] at HO1 p0 p1 d0 ⊢
        clear hW2
        go_region_held3 (fun w' => w'.cell? ⟨bw, 0, none⟩ = some (ptr bx) ∧ w'.cell? ⟨w2.heap.size, 0, none⟩ = some (.int .i64 (n : Int)) ∧ w'.cell? ⟨w2.heap.size, 1, none⟩ = some (.int .i64 (k : Int))) (first | exact KP2.out | go_keep) ((
          go_at_call 31
          refine (CST.out _ _ HO1.out.drew.desk).mono ?_
          rintro e w3 ⟨rfl, hk, hl⟩
          have HO2 := hid (HO1.out.drew.next hk hl)
          have f0 := HO2.out.desk.cells.1
          have KP2 := hid (And.intro f0 (And.intro (cell_of_heap (HO2.out.own _ (.head _)).1 0) (cell_of_heap (HO2.out.own _ (.head _)).1 1)))
          clear hk hl))
        go_wp2_with (first
          | (go_at_call 36
             refine (CSP.out _ _ HO2.out.desk).mono ?_
             rintro e w4 ⟨rfl, hk4, hl4⟩
             have HO3 := hid ((HO2.out.next hk4 hl4).alloc #[.int .i64 (n : Int), .int .i64 (k : Int), .int .i64 zc, .int .i64 zd] 79)
             have y0 := cell_of_heap (HO3.out.own _ (.head _)).1 0
             have y1 := cell_of_heap (HO3.out.own _ (.head _)).1 1
             have y2 := cell_of_heap (HO3.out.own _ (.head _)).1 2
             have y3 := cell_of_heap (HO3.out.own _ (.head _)).1 3
             have x0 := cell_of_heap (HO3.out.own _ (.tail _ (.head _))).1 0
             have x1 := cell_of_heap (HO3.out.own _ (.tail _ (.head _))).1 1
             clear hk4 hl4 HO2)
          | (go_at_call 38
             refine (CL0.out _ _ HO3.out.desk).mono ?_
             rintro e w7 ⟨rfl, hk7, hd7⟩
             have HL0 := hid hd7
             clear hk7 hd7 HO3)
          | (go_at_call 38
             refine (CL1.out _ _ HL0.out).mono ?_
             rintro e w8 ⟨rfl, hk8, hd8⟩
             have HL1 := hid hd8
             clear hk8 hd8 HL0))
        go_roundw
        case rel => exact ⟨i + 1, s, rs.set r ⟨n, k, zc, zd⟩, by first | rfl | simp, by first | rfl | simp, by omega, ⟨HX.out.1, HSP.out.2, HSP.out.1, _, HL1.out⟩⟩
        case measure =>
          show 60 - ((i : Int) + 1).toNat < 60 - ((i : Int)).toNat
          omega
      · have CPK : Hid (∀ W : World, Calls Tryz.prog 27 #[.int .i64 (o.K.tdiv 9), .int .i64 8] W fun e w' => e = .returned (.int .i64 1) ∧ w' = W) := fun W => by
          have := pick_is (o.K.tdiv 9) HKD.out.2 8 (by decide) (by decide) W
          rw [HKD.out.1] at this
          exact this
        go_wp2_with (first
          | (go_at_call 27
             refine (CPR.out _).mono ?_
             rintro e w' ⟨rfl, rfl⟩
             clear CPR)
          | (go_at_call 27
             refine (CPK.out _).mono ?_
             rintro e w' ⟨rfl, rfl⟩
             clear CPK)
          | (go_at_call 25
             refine (CPL.out _ _ HO.out.desk).mono ?_
             rintro e w2 ⟨n, k, hn, hk, rfl, hkp, hdp⟩
             have HO1 := hid ((HO.out.with hkp hdp).alloc #[.int .i64 (n : Int), .int .i64 (k : Int)] 37)
             have HN := hid (And.intro hn hk)
             have s0 := cell_of_heap (HO1.out.own _ (.tail _ (.head _))).1 0
             have s1 := cell_of_heap (HO1.out.own _ (.tail _ (.head _))).1 1
             have s2 := cell_of_heap (HO1.out.own _ (.tail _ (.head _))).1 2
             have s3 := cell_of_heap (HO1.out.own _ (.tail _ (.head _))).1 3
             have p0 := cell_of_heap (HO1.out.own _ (.head _)).1 0
             have p1 := cell_of_heap (HO1.out.own _ (.head _)).1 1
             have d0 := HO1.out.desk.cells.1
             clear hkp hdp hn hk t0 t1 t2 t3 HO CPL))
        obtain ⟨⟨za, zb, zc, zd⟩, hz1, hz2, hzs, _, CSS⟩ := pend_ok spIs_lives HX.out.1 HX.out.2.2.2.1 (show rs.length ≤ 6 by have := HX.out.2.1; omega) HX.out.2.2.1 r n k x HX.out.2.2.2.2.2.1 HN.out.1 HN.out.2
        obtain rfl : zc = (n : Int) := hz1
        obtain rfl : zd = (k : Int) := hz2
        have hsp' : ∀ y ∈ rs.set r ⟨za, zb, n, k⟩, SpIs s y := Mid.sp_set HX.out.2.2.1 hzs
        have hxr : (rs.set r ⟨za, zb, n, k⟩)[r]? = some ⟨za, zb, n, k⟩ := by
          have := HX.out.2.1
          rw [List.getElem?_set_self (by omega)]
        have CST : Hid (∀ (F' : Nat → Prop) (W : World), Desk w F' W bw bx (s.length : Int) 2 ⟨s, rs⟩ → Calls Tryz.prog 32 #[ptr bx, .int .i64 (r : Int), .agg #[.int .i64 (n : Int), .int .i64 (k : Int)]] W (PLPost F' W bx ⟨s, rs.set r ⟨za, zb, n, k⟩⟩ .nilIface)) := fun F' W h => by
          have := CSS W F' bx (h.gg HX.out.2.2.2.2.1) h.doc
          rw [show errV 0 0 = .nilIface from by simp [errV]] at this
          exact this
        have CSP := hid (fun (F' : Nat → Prop) (W : World) (h : Desk w F' W bw bx (s.length : Int) 2 ⟨s, rs.set r ⟨za, zb, n, k⟩⟩) => pspan_ok (h.gg HX.out.2.2.2.2.1) h.doc r _ hxr)
        have hlen' : (rs.set r ⟨za, zb, n, k⟩).length = 2 := by rw [List.length_set]; exact HX.out.2.1
        obtain ⟨x0v, hx0⟩ : ∃ x, (rs.set r ⟨za, zb, n, k⟩)[0]? = some x := ⟨_, List.getElem?_eq_getElem (by omega)⟩
        obtain ⟨x1v, hx1⟩ : ∃ x, (rs.set r ⟨za, zb, n, k⟩)[1]? = some x := ⟨_, List.getElem?_eq_getElem (by omega)⟩
        have CL0 := hid (fun (F' : Nat → Prop) (W : World) (h : Desk w F' W bw bx ((s.length : Int)) 2 ⟨s, rs.set r ⟨za, zb, n, k⟩⟩) => living_at HX.out.2.2.2.2.1 HX.out.1 h 0 x0v hx0 (hsp' _ (List.mem_of_getElem? hx0)))
        have CL1 := hid (fun (F' : Nat → Prop) (W : World) (h : Desk w F' W bw bx ((s.length : Int)) 2 ⟨s, rs.set r ⟨za, zb, n, k⟩⟩) => living_at HX.out.2.2.2.2.1 HX.out.1 h 1 x1v hx1 (hsp' _ (List.mem_of_getElem? hx1)))
        have eqp := eq_place_yes (n : Int) (k : Int)
        have eqg := fun (x y : Operand) (w : World) => eqg_place x y (n : Int) (k : Int) (n : Int) (k : Int) w
        have HSP := hid (And.intro hsp' hlen')
        clear CSS hzs hsp' hxr hx0 hx1 hlen' s0 s1 s2 s3
        obtain ⟨W2, hW2⟩ : ∃ W, w2.alloc (.cells #[.int .i64 (n : Int), .int .i64 (k : Int)] 37) = W := ⟨_, rfl⟩
        rw [hW2] at HO1 p0 p1 d0 ⊢
        clear hW2
        go_region_held3 (fun w' => w'.cell? ⟨bw, 0, none⟩ = some (ptr bx) ∧ w'.cell? ⟨w2.heap.size, 0, none⟩ = some (.int .i64 (n : Int)) ∧ w'.cell? ⟨w2.heap.size, 1, none⟩ = some (.int .i64 (k : Int))) (first | exact KP2.out | go_keep) ((
          go_at_call 32
          refine (CST.out _ _ HO1.out.drew.desk).mono ?_
          rintro e w3 ⟨rfl, hk, hl⟩
          have HO2 := hid (HO1.out.drew.next hk hl)
          have f0 := HO2.out.desk.cells.1
          have KP2 := hid (And.intro f0 (And.intro (cell_of_heap (HO2.out.own _ (.head _)).1 0) (cell_of_heap (HO2.out.own _ (.head _)).1 1)))
          clear hk hl))
        go_wp2_with (first
          | (go_at_call 36
             refine (CSP.out _ _ HO2.out.desk).mono ?_
             rintro e w4 ⟨rfl, hk4, hl4⟩
             have HO3 := hid ((HO2.out.next hk4 hl4).alloc #[.int .i64 za, .int .i64 zb, .int .i64 (n : Int), .int .i64 (k : Int)] 79)
             have y0 := cell_of_heap (HO3.out.own _ (.head _)).1 0
             have y1 := cell_of_heap (HO3.out.own _ (.head _)).1 1
             have y2 := cell_of_heap (HO3.out.own _ (.head _)).1 2
             have y3 := cell_of_heap (HO3.out.own _ (.head _)).1 3
             have x0 := cell_of_heap (HO3.out.own _ (.tail _ (.head _))).1 0
             have x1 := cell_of_heap (HO3.out.own _ (.tail _ (.head _))).1 1
             clear hk4 hl4 HO2)
          | (go_at_call 38
             refine (CL0.out _ _ HO3.out.desk).mono ?_
             rintro e w7 ⟨rfl, hk7, hd7⟩
             have HL0 := hid hd7
             clear hk7 hd7 HO3)
          | (go_at_call 38
             refine (CL1.out _ _ HL0.out).mono ?_
             rintro e w8 ⟨rfl, hk8, hd8⟩
             have HL1 := hid hd8
             clear hk8 hd8 HL0))
        go_roundw
        case rel => exact ⟨i + 1, s, rs.set r ⟨za, zb, n, k⟩, by first | rfl | simp, by first | rfl | simp, by omega, ⟨HX.out.1, HSP.out.2, HSP.out.1, _, HL1.out⟩⟩
        case measure =>
          show 60 - ((i : Int) + 1).toNat < 60 - ((i : Int)).toNat
          omega
      · have CPK : Hid (∀ W : World, Calls Tryz.prog 27 #[.int .i64 (o.K.tdiv 9), .int .i64 8] W fun e w' => e = .returned (.int .i64 2) ∧ w' = W) := fun W => by
          have := pick_is (o.K.tdiv 9) HKD.out.2 8 (by decide) (by decide) W
          rw [HKD.out.1] at this
          exact this
        obtain ⟨s', f, jp, jq, wf', hl', _, hlv, hpl, CSS⟩ := pdelete_ok HX.out.1 HX.out.2.2.2.1 rs (show rs.length ≤ 6 by have := HX.out.2.1; omega) HX.out.2.2.1 r x HX.out.2.2.2.2.2.1
        have hsp' : ∀ y ∈ (rs.map (mvSp f)).set r ⟨jp, jq, jp, jq⟩, SpIs s' y := Mid.sp_set (mapV HX.out.2.2.1 hlv) (spIs_one wf' hpl)
        have hxr : ((rs.map (mvSp f)).set r ⟨jp, jq, jp, jq⟩)[r]? = some ⟨jp, jq, jp, jq⟩ := by
          have := HX.out.2.1
          rw [List.getElem?_set_self (by rw [List.length_map]; omega)]
        have CST : Hid (∀ (F' : Nat → Prop) (W : World), Desk w F' W bw bx (s.length : Int) 2 ⟨s, rs⟩ → Calls Tryz.prog 37 #[ptr bx, .int .i64 (r : Int)] W (PLPost F' W bx ⟨s', (rs.map (mvSp f)).set r ⟨jp, jq, jp, jq⟩⟩ .nilIface)) := fun F' W h => by
          have := CSS W F' bx (h.gg HX.out.2.2.2.2.1) h.doc
          rw [show errV 0 0 = .nilIface from by simp [errV]] at this
          exact this
        have CSP := hid (fun (F' : Nat → Prop) (W : World) (h : Desk w F' W bw bx (s.length : Int) 2 ⟨s', (rs.map (mvSp f)).set r ⟨jp, jq, jp, jq⟩⟩) => pspan_ok (h.gg HX.out.2.2.2.2.1) h.doc r _ hxr)
        have hlen' : ((rs.map (mvSp f)).set r ⟨jp, jq, jp, jq⟩).length = 2 := by rw [List.length_set, List.length_map]; exact HX.out.2.1
        obtain ⟨x0v, hx0⟩ : ∃ x, ((rs.map (mvSp f)).set r ⟨jp, jq, jp, jq⟩)[0]? = some x := ⟨_, List.getElem?_eq_getElem (by omega)⟩
        obtain ⟨x1v, hx1⟩ : ∃ x, ((rs.map (mvSp f)).set r ⟨jp, jq, jp, jq⟩)[1]? = some x := ⟨_, List.getElem?_eq_getElem (by omega)⟩
        have CL0 := hid (fun (F' : Nat → Prop) (W : World) (h : Desk w F' W bw bx ((s.length : Int)) 2 ⟨s', (rs.map (mvSp f)).set r ⟨jp, jq, jp, jq⟩⟩) => living_at HX.out.2.2.2.2.1 wf' h 0 x0v hx0 (hsp' _ (List.mem_of_getElem? hx0)))
        have CL1 := hid (fun (F' : Nat → Prop) (W : World) (h : Desk w F' W bw bx ((s.length : Int)) 2 ⟨s', (rs.map (mvSp f)).set r ⟨jp, jq, jp, jq⟩⟩) => living_at HX.out.2.2.2.2.1 wf' h 1 x1v hx1 (hsp' _ (List.mem_of_getElem? hx1)))
        have eqp := eq_place_yes jp jq
        have eqg := fun (x y : Operand) (w : World) => eqg_place x y jp jq jp jq w
        have HSP := hid (And.intro hsp' (And.intro hlen' (And.intro wf' hl')))
        clear CSS hlv hpl hsp' hxr hx0 hx1 hlen' wf' hl'
        go_wp2_with (first
          | (go_at_call 27
             refine (CPR.out _).mono ?_
             rintro e w' ⟨rfl, rfl⟩
             clear CPR)
          | (go_at_call 27
             refine (CPK.out _).mono ?_
             rintro e w' ⟨rfl, rfl⟩
             clear CPK)
          | (go_at_call 25
             refine (CPL.out _ _ HO.out.desk).mono ?_
             rintro e w2 ⟨n, k, hn, hk, rfl, hkp, hdp⟩
             have HO1 := hid ((HO.out.with hkp hdp).alloc #[.int .i64 (n : Int), .int .i64 (k : Int)] 37)
             have HN := hid (And.intro hn hk)
             have s0 := cell_of_heap (HO1.out.own _ (.tail _ (.head _))).1 0
             have s1 := cell_of_heap (HO1.out.own _ (.tail _ (.head _))).1 1
             have s2 := cell_of_heap (HO1.out.own _ (.tail _ (.head _))).1 2
             have s3 := cell_of_heap (HO1.out.own _ (.tail _ (.head _))).1 3
             have p0 := cell_of_heap (HO1.out.own _ (.head _)).1 0
             have p1 := cell_of_heap (HO1.out.own _ (.head _)).1 1
             have d0 := HO1.out.desk.cells.1
             clear hkp hdp hn hk t0 t1 t2 t3 HO CPL)
          | (go_at_call 37
             refine (CST.out _ _ HO1.out.desk).mono ?_
             rintro e w3 ⟨rfl, hk, hl⟩
             have HO2 := hid (HO1.out.next hk hl)
             have f0 := HO2.out.desk.cells.1
             clear hk hl s0 s1 s2 s3 p0 p1 d0 HO1)
          | (go_at_call 36
             refine (CSP.out _ _ HO2.out.desk).mono ?_
             rintro e w4 ⟨rfl, hk4, hl4⟩
             have HO3 := hid ((HO2.out.next hk4 hl4).alloc #[.int .i64 jp, .int .i64 jq, .int .i64 jp, .int .i64 jq] 79)
             have y0 := cell_of_heap (HO3.out.own _ (.head _)).1 0
             have y1 := cell_of_heap (HO3.out.own _ (.head _)).1 1
             have y2 := cell_of_heap (HO3.out.own _ (.head _)).1 2
             have y3 := cell_of_heap (HO3.out.own _ (.head _)).1 3
             have x0 := cell_of_heap (HO3.out.own _ (.tail _ (.head _))).1 0
             have x1 := cell_of_heap (HO3.out.own _ (.tail _ (.head _))).1 1
             clear hk4 hl4 HO2)
          | (go_at_call 38
             refine (CL0.out _ _ HO3.out.desk).mono ?_
             rintro e w7 ⟨rfl, hk7, hd7⟩
             have HL0 := hid hd7
             clear hk7 hd7 HO3)
          | (go_at_call 38
             refine (CL1.out _ _ HL0.out).mono ?_
             rintro e w8 ⟨rfl, hk8, hd8⟩
             have HL1 := hid hd8
             clear hk8 hd8 HL0))
        go_roundw
        case rel => exact ⟨i + 1, s', (rs.map (mvSp f)).set r ⟨jp, jq, jp, jq⟩, by first | rfl | simp, by first | rfl | simp, by omega, ⟨HSP.out.2.2.1, HSP.out.2.1, HSP.out.1, _, HL1.out.as (by rw [HSP.out.2.2.2])⟩⟩
        case measure =>
          show 60 - ((i : Int) + 1).toNat < 60 - ((i : Int)).toNat
          omega
      · have CPK : Hid (∀ W : World, Calls Tryz.prog 27 #[.int .i64 (o.K.tdiv 9), .int .i64 8] W fun e w' => e = .returned (.int .i64 (kd : Int)) ∧ w' = W) := fun W => by
          have := pick_is (o.K.tdiv 9) HKD.out.2 8 (by decide) (by decide) W
          rw [HKD.out.1] at this
          exact this
        have hk0 : ¬ (kd : Int) = 0 := by omega
        have hk1 : ¬ (kd : Int) = 1 := by omega
        have hk2 : ¬ (kd : Int) = 2 := by omega
        have CD := hid (fun (W : World) (h : Mid w W bw bx s rs) => h.does HX.out.2.2.2.2.1 o HX.out.2.2.2.2.2.2 false)
        have CLX := hid (fun (s' : List Nd) (rs' : List Sp) (W : World) (h : Mid w W bw bx s' rs') (F' : Nat → Prop) (hd : Desk w F' W bw bx (s'.length : Int) 2 ⟨s', rs'⟩) => living_at HX.out.2.2.2.2.1 h.wf hd 0 (rs'[0]'(by have := h.len; omega)) (List.getElem?_eq_getElem _) (h.sp _ (List.getElem_mem _)))
        have CLY := hid (fun (s' : List Nd) (rs' : List Sp) (W : World) (h : Mid w W bw bx s' rs') (F' : Nat → Prop) (V : World) (hd : Desk w F' V bw bx (s'.length : Int) 2 ⟨s', rs'⟩) => living_at HX.out.2.2.2.2.1 h.wf hd 1 (rs'[1]'(by have := h.len; omega)) (List.getElem?_eq_getElem _) (h.sp _ (List.getElem_mem _)))
        go_wp2_with (first
          | (go_at_call 27
             refine (CPR.out _).mono ?_
             rintro e w' ⟨rfl, rfl⟩
             clear CPR)
          | (go_at_call 27
             refine (CPK.out _).mono ?_
             rintro e w' ⟨rfl, rfl⟩
             clear CPK)
          | (go_at_call 25
             refine (CPL.out _ _ HO.out.desk).mono ?_
             rintro e w2 ⟨n, k, hn, hk, rfl, hkp, hdp⟩
             have HO1 := hid ((HO.out.with hkp hdp).alloc #[.int .i64 (n : Int), .int .i64 (k : Int)] 37)
             have HN := hid (And.intro hn hk)
             have s0 := cell_of_heap (HO1.out.own _ (.tail _ (.head _))).1 0
             have s1 := cell_of_heap (HO1.out.own _ (.tail _ (.head _))).1 1
             have s2 := cell_of_heap (HO1.out.own _ (.tail _ (.head _))).1 2
             have s3 := cell_of_heap (HO1.out.own _ (.tail _ (.head _))).1 3
             have p0 := cell_of_heap (HO1.out.own _ (.head _)).1 0
             have p1 := cell_of_heap (HO1.out.own _ (.head _)).1 1
             have d0 := HO1.out.desk.cells.1
             clear hkp hdp hn hk t0 t1 t2 t3 HO CPL)
          | (go_at_call 24
             refine (CD.out _ ⟨HX.out.1, HX.out.2.1, HX.out.2.2.1, _, HO1.out.desk⟩).mono ?_
             rintro e w3 ⟨rfl, s', fs, _, hm3⟩
             obtain ⟨F3, hd3⟩ := hm3.desk
             have HM3 := hid (And.intro hm3 hd3)
             clear hm3 hd3 s0 s1 s2 s3 p0 p1 d0 HO1)
          | (go_at_call 38
             refine (CLX.out _ _ _ HM3.out.1 _ HM3.out.2).mono ?_
             rintro e w7 ⟨rfl, hk7, hd7⟩
             have HL0 := hid hd7
             clear hk7 hd7 CLX)
          | (go_at_call 38
             refine (CLY.out _ _ _ HM3.out.1 _ _ HL0.out).mono ?_
             rintro e w8 ⟨rfl, hk8, hd8⟩
             have HL1 := hid hd8
             clear hk8 hd8 HL0))
        go_roundw
        case rel => exact ⟨i + 1, s', _, by first | rfl | simp, by first | rfl | simp, by omega, ⟨HM3.out.1.wf, HM3.out.1.len, HM3.out.1.sp, _, HL1.out⟩⟩
        case measure =>
          show 60 - ((i : Int) + 1).toNat < 60 - ((i : Int)).toNat
          omega
    · have hex : (¬ (i : Int) < (l.length : Int)) ∨ ((i : Int) < (l.length : Int) ∧ ¬ (i : Int) < 60) := by omega
      obtain ⟨F, hD⟩ := hM.desk
      have HE := hid hD.low
      clear hM hD hScr hg hgo
      rcases hex with h1' | ⟨h1', h2'⟩
      all_goals
        go_wp2
        go_ret
        exact ⟨rfl, HE.out⟩
end Go.Proofs.YtabogkonklplcaaGreatDoor
