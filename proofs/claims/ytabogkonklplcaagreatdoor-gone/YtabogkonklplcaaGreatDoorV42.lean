import Derived.Test.YtabogkonklplcaaGreatDoorV39

namespace Go.Proofs.YtabogkonklplcaaGreatDoor
open Go.RowKit
set_option linter.unusedSimpArgs false
set_option linter.unusedVariables false
section
variable {s : List Nd} {rs : List Sp}
set_option maxRecDepth 20000 in
set_option maxHeartbeats 4000000 in
theorem do5_any {w0 w : World} {F : Nat → Prop} {bw bx : Nat} {M : Int} (hg : GG w0) (wf : WF s) (h6 : rs.length ≤ 6) (hrs : ∀ z ∈ rs, SpIs s z) (hD : Desk w0 F w bw bx (s.length : Int) M ⟨s, rs⟩) (K A B C : Int) (hK : I64 K) (hA : I64 A) (hB : I64 B) (hC : I64 C) (keep : Bool) (n m : Nat) (hn : pickM A s.length = n) (hm : pickM C 7 = m) (hk : pickM K 9 = 5) :
    Calls Tryz.prog 24 #[ptr bw, .agg #[.int .i64 K, .int .i64 A, .int .i64 B, .int .i64 C], .bool keep] w (DoesPost w0 bw bx M s rs keep) := by
  have hcap := wf.cap
  have hpos := wf.pos
  have hnlt : n < s.length := hn ▸ pickM_lt A wf.pos
  have hm7 : m < 7 := hm ▸ pickM_lt C (by decide)
  have hm0 : (0 : Int) ≤ (m : Int) := by omega
  have hm7' : (m : Int) < 7 := by omega
  have CN : Hid (∀ (F' : Nat → Prop) (W : World), Desk w0 F' W bw bx (s.length : Int) M ⟨s, rs⟩ → Calls Tryz.prog 57 #[ptr bw, .int .i64 A] W fun e w' => e = .returned (.int .i64 (n : Int)) ∧ w' = W) := fun F' W h => by
    have := node_is wf h A hA
    rw [hn] at this
    exact this
  have CP7 : Hid (∀ W : World, Calls Tryz.prog 27 #[.int .i64 C, .int .i64 7] W fun e w' => e = .returned (.int .i64 (m : Int)) ∧ w' = W) := fun W => by
    have := pick_is C hC 7 (by decide) (by decide) W
    rw [hm] at this
    exact this
  have CP9 : Hid (∀ W : World, Calls Tryz.prog 27 #[.int .i64 K, .int .i64 9] W fun e w' => e = .returned (.int .i64 5) ∧ w' = W) := fun W => by
    have := pick_is K hK 9 (by decide) (by decide) W
    rw [hk] at this
    exact this
  have hs40 := size40 wf hnlt
  obtain ⟨h, H, u⟩ := wf.up
  have CB : Hid (∀ (F' : Nat → Prop) (W : World), Desk w0 F' W bw bx (s.length : Int) M ⟨s, rs⟩ → Calls Tryz.prog 61 #[ptr bw, .int .i64 (n : Int)] W fun e w' => e = .returned (.int .i64 (befS (shownF s (h n + 1) n))) ∧ Keeps F' W w' ∧ Desk w0 (grow F' W) w' bw bx (s.length : Int) M ⟨s, rs⟩) := fun F' W hh => before_at hg wf u hh n hnlt
  obtain ⟨bf, hbf⟩ : ∃ q, befS (shownF s (h n + 1) n) = q := ⟨_, rfl⟩
  obtain ⟨c, hc⟩ : ∃ c, pickM C 4 = c := ⟨_, rfl⟩
  have hc4 : c < 4 := hc ▸ pickM_lt C (by decide)
  have CP4 : Hid (∀ W : World, Calls Tryz.prog 27 #[.int .i64 C, .int .i64 4] W fun e w' => e = .returned (.int .i64 (c : Int)) ∧ w' = W) := fun W => by
    have := pick_is C hC 4 (by decide) (by decide) W
    rw [hc] at this
    exact this
  obtain ⟨a2, y2, s2, f2, wf2, R2, L2, C2⟩ := pans_replace s wf rs h6 (fun z hz => (hrs z hz).ok) (n : Int) (pickM B (sizeAt s n + 1) : Int) (c : Int) (bitN m) (bit_size m hm7)
  have hl2 : (s.length : Int) = (s2.length : Int) := by rw [R2.size]
  have hpb : pickM B (sizeAt s n + 1) ≤ sizeAt s n := by have := pickM_lt B (n := sizeAt s n + 1) (by omega); omega
  have POST : Hid ((keep = true → bf < (pickM B (sizeAt s n + 1) : Int) ∨ (pickM B (sizeAt s n + 1) : Int) + (c : Int) ≤ bf) → ∀ (F' : Nat → Prop) (W : World), Desk w0 F' W bw bx (s.length : Int) M ⟨s2, rs.map (mvSp f2)⟩ → DoesPost w0 bw bx M s rs keep (.returned (.tuple #[])) W) := fun hgu F' W h => by
    refine ⟨rfl, F', s2, [f2], .cons ⟨.inr (.inr (.inr (.inl ⟨n, _, c, m, a2, y2, _, H, hnlt, hpb, hm7, u, fun e => ?_, R2⟩))), wf2, L2⟩ .nil, ?_⟩
    · rw [hbf]; exact hgu e
    · rw [map_cons', map_nil']
      exact h.as hl2
  have POST0 : Hid (∀ (F' : Nat → Prop) (W : World), Desk w0 F' W bw bx (s.length : Int) M ⟨s, rs⟩ → DoesPost w0 bw bx M s rs keep (.returned (.tuple #[])) W) := fun F' W h => by
    refine ⟨rfl, F', s, [], .nil, ?_⟩
    rw [map_nil']
    exact h
  rw [hbf] at CB
  have CS : Hid (∀ (F' : Nat → Prop) (W : World), Desk w0 F' W bw bx ((s.length : Int)) M ⟨s, rs⟩ → Calls Tryz.prog 28 #[ptr bw, .int .i64 (n : Int)] W fun e w' => e = .returned (.int .i64 (sizeAt s n : Int)) ∧ Keeps F' W w' ∧ Desk w0 (grow F' W) w' bw bx ((s.length : Int)) M ⟨s, rs⟩) := fun F' W h => size_at hg wf h n hnlt
  have CPX : Hid (∀ W : World, Calls Tryz.prog 27 #[.int .i64 B, .int .i64 ((sizeAt s n : Int) + 1)] W fun e w' => e = .returned (.int .i64 (pickM B (sizeAt s n + 1) : Int)) ∧ w' = W) := fun W => pick_is B hB (sizeAt s n + 1) (by omega) (by omega) W
  have CI := hid (fun (F' : Nat → Prop) (W : World) (h : Desk w0 F' W bw bx (s.length : Int) M ⟨s, rs⟩) => C2 W F' bx (h.gg hg) h.doc)
  obtain ⟨sz, hsz⟩ : ∃ k, sizeAt s n = k := ⟨_, rfl⟩
  rw [hsz] at CS CPX CI POST hs40
  obtain ⟨pk, hpk⟩ : ∃ k, pickM B (sz + 1) = k := ⟨_, rfl⟩
  have hpkl : pk < sz + 1 := hpk ▸ pickM_lt B (by omega)
  rw [hpk] at CPX CI POST
  have hwr : IntKind.i64.wrap ((sz : Int) + 1) = (sz : Int) + 1 := IntWalk.i64_in _ (by omega)
  have HDW0 : Hid (Desk w0 (fun b => F b ∧ b < w.heap.size) (w.alloc (.cells #[.int .i64 K, .int .i64 A, .int .i64 B, .int .i64 C] 56)) bw bx (s.length : Int) M ⟨s, rs⟩) := hD.narrow.below ((Below.refl _ w).alloc (Nat.le_refl _) _)
  clear hD hg wf hrs hk hn hm hA hB hC hK hbf R2 L2 C2 wf2 hl2 u hpb hsz hpk hc
  go_enter Tryz.func24, Tryz.ntmps24
  go_wp2_with (
    go_at_call 57
    refine (CN.out _ _ HDW0.out).mono ?_
    rintro e w1 ⟨rfl, rfl⟩)
  obtain ⟨W, hW⟩ : ∃ W, w.alloc (.cells #[.int .i64 K, .int .i64 A, .int .i64 B, .int .i64 C] 56) = W := ⟨_, rfl⟩
  have hWs : W.heap[w.heap.size]? = some (.cells #[.int .i64 K, .int .i64 A, .int .i64 B, .int .i64 C] 56 (0, 0)) := by rw [← hW]; exact heap_alloc_new w _
  have HD1 : Hid (DeskS w0 (fun b => F b ∧ b < w.heap.size) W bw bx (s.length : Int) M ⟨s, rs⟩ w.heap.size K A B C) := ⟨hW ▸ HDW0.out, hWs, fun e => Nat.lt_irrefl _ e.2⟩
  rw [hW]
  clear hW HDW0
  have s3 := cell_of_heap hWs 3
  clear hWs
  go_region_with (first
    | (go_at_call 58
       refine (bits_at _).mono ?_
       rintro e w2 ⟨b, rfl, hb2, hc2⟩
       have hb2c : Below W.heap.size W w2 := ⟨hb2.os, hb2.tape, hb2.output, hb2.size, hb2.block⟩
       have HD2 := hid (HD1.out.below hb2c)
       have kp2 := HD2.out.cells.2.2.2.2
       have hcm := hc2 m hm7
       clear hb2 hb2c hc2)
    | (go_at_call 27
       refine (CP7.out _).mono ?_
       rintro e w' ⟨rfl, rfl⟩))
  all_goals
    obtain ⟨d0, t0, t1, t2, t3⟩ := HD2.out.cells
    clear hcm kp2 s3 HD1
    go_wp2_with (first
      | (go_at_call 27
         refine (CP9.out _).mono ?_
         rintro e w' ⟨rfl, rfl⟩))
    go_region_held3 (fun w' => w'.cell? ⟨bw, 0, none⟩ = some (ptr bx) ∧ w'.cell? ⟨w.heap.size, 2, none⟩ = some (.int .i64 B)) (first | exact KP6.out | exact KP5.out | go_keep) (first
      | (go_at_call 28
         refine (CS.out _ _ HD2.out.drew.desk).mono ?_
         rintro e w5 ⟨rfl, hk5, hd5⟩
         have HD5 := hid (HD2.out.drew.with hk5 hd5)
         have KP5 := hid (And.intro HD5.out.cells.1 HD5.out.cells.2.2.2.1)
         clear hk5 hd5)
      | (go_at_call 27
         refine (CPX.out _).mono ?_
         rintro e w' ⟨rfl, rfl⟩))
    all_goals
      obtain ⟨e0, f0, f1, f2', f3⟩ := HD5.out.cells
      clear KP5 d0 t0 t1 t2 t3
      cases keep
      · go_wp2_with (first
          | (go_at_call 27
             refine (CP4.out _).mono ?_
             rintro e w' ⟨rfl, rfl⟩)
          | (go_at_call 61
             refine (CB.out _ _ HD5.out.desk).mono ?_
             rintro e w7 ⟨rfl, hk7, hd7⟩
             have HD7 := hid (HD5.out.with hk7 hd7)
             have z0 := HD7.out.desk.cells.1
             clear hk7 hd7)
          | (go_at_call 34
             refine (CI.out _ _ HD7.out.desk).mono ?_
             rintro e w6 ⟨rfl, hk6, hl6⟩
             have HD6 := hid (HD7.out.next hk6 hl6)
             clear hk6 hl6))
        (try simp only [Exit.inBlock, Exit.then])
        refine bodyPost_end (results_none rfl _ _ _) rfl ?_
        first
          | exact POST.out (fun e => absurd e Bool.false_ne_true) _ _ HD6.out.desk
          | exact POST.out (fun _ => .inl g1) _ _ HD6.out.desk
          | exact POST.out (fun _ => .inr g2) _ _ HD6.out.desk
          | exact POST0.out _ _ HD7.out.desk
      · by_cases g1 : bf < (pk : Int)
        · go_wp2_with (first
            | (go_at_call 27
               refine (CP4.out _).mono ?_
               rintro e w' ⟨rfl, rfl⟩)
            | (go_at_call 61
               refine (CB.out _ _ HD5.out.desk).mono ?_
               rintro e w7 ⟨rfl, hk7, hd7⟩
               have HD7 := hid (HD5.out.with hk7 hd7)
               have z0 := HD7.out.desk.cells.1
               clear hk7 hd7)
            | (go_at_call 34
               refine (CI.out _ _ HD7.out.desk).mono ?_
               rintro e w6 ⟨rfl, hk6, hl6⟩
               have HD6 := hid (HD7.out.next hk6 hl6)
               clear hk6 hl6))
          (try simp only [Exit.inBlock, Exit.then])
          refine bodyPost_end (results_none rfl _ _ _) rfl ?_
          first
            | exact POST.out (fun e => absurd e Bool.false_ne_true) _ _ HD6.out.desk
            | exact POST.out (fun _ => .inl g1) _ _ HD6.out.desk
            | exact POST.out (fun _ => .inr g2) _ _ HD6.out.desk
            | exact POST0.out _ _ HD7.out.desk
        · by_cases g2 : (pk : Int) + (c : Int) ≤ bf
          · go_wp2_with (first
              | (go_at_call 27
                 refine (CP4.out _).mono ?_
                 rintro e w' ⟨rfl, rfl⟩)
              | (go_at_call 61
                 refine (CB.out _ _ HD5.out.desk).mono ?_
                 rintro e w7 ⟨rfl, hk7, hd7⟩
                 have HD7 := hid (HD5.out.with hk7 hd7)
                 have z0 := HD7.out.desk.cells.1
                 clear hk7 hd7)
              | (go_at_call 34
                 refine (CI.out _ _ HD7.out.desk).mono ?_
                 rintro e w6 ⟨rfl, hk6, hl6⟩
                 have HD6 := hid (HD7.out.next hk6 hl6)
                 clear hk6 hl6))
            (try simp only [Exit.inBlock, Exit.then])
            refine bodyPost_end (results_none rfl _ _ _) rfl ?_
            first
              | exact POST.out (fun e => absurd e Bool.false_ne_true) _ _ HD6.out.desk
              | exact POST.out (fun _ => .inl g1) _ _ HD6.out.desk
              | exact POST.out (fun _ => .inr g2) _ _ HD6.out.desk
              | exact POST0.out _ _ HD7.out.desk
          · go_wp2_with (first
              | (go_at_call 27
                 refine (CP4.out _).mono ?_
                 rintro e w' ⟨rfl, rfl⟩)
              | (go_at_call 61
                 refine (CB.out _ _ HD5.out.desk).mono ?_
                 rintro e w7 ⟨rfl, hk7, hd7⟩
                 have HD7 := hid (HD5.out.with hk7 hd7)
                 have z0 := HD7.out.desk.cells.1
                 clear hk7 hd7)
              | (go_at_call 34
                 refine (CI.out _ _ HD7.out.desk).mono ?_
                 rintro e w6 ⟨rfl, hk6, hl6⟩
                 have HD6 := hid (HD7.out.next hk6 hl6)
                 clear hk6 hl6))
            (try simp only [Exit.inBlock, Exit.then])
            refine bodyPost_end (results_none rfl _ _ _) rfl ?_
            first
              | exact POST.out (fun e => absurd e Bool.false_ne_true) _ _ HD6.out.desk
              | exact POST.out (fun _ => .inl g1) _ _ HD6.out.desk
              | exact POST.out (fun _ => .inr g2) _ _ HD6.out.desk
              | exact POST0.out _ _ HD7.out.desk
theorem does_k5 {w0 w : World} {F : Nat → Prop} {bw bx : Nat} {M : Int} (hg : GG w0) (wf : WF s) (h6 : rs.length ≤ 6) (hrs : ∀ z ∈ rs, SpIs s z) (hD : Desk w0 F w bw bx (s.length : Int) M ⟨s, rs⟩) (K A B C : Int) (hK : I64 K) (hA : I64 A) (hB : I64 B) (hC : I64 C) (keep : Bool) (hk : pickM K 9 = 5) : Calls Tryz.prog 24 #[ptr bw, .agg #[.int .i64 K, .int .i64 A, .int .i64 B, .int .i64 C], .bool keep] w (DoesPost w0 bw bx M s rs keep) := do5_any hg wf h6 hrs hD K A B C hK hA hB hC keep _ _ rfl rfl hk
end
end Go.Proofs.YtabogkonklplcaaGreatDoor

namespace Go.Proofs.YtabogkonklplcaaGreatDoor
open Go.RowKit
set_option linter.unusedSimpArgs false
set_option linter.unusedVariables false
section
variable {s : List Nd} {rs : List Sp}
set_option maxRecDepth 20000 in
set_option maxHeartbeats 4000000 in
theorem do6_any {w0 w : World} {F : Nat → Prop} {bw bx : Nat} {M : Int} (hg : GG w0) (wf : WF s) (h6 : rs.length ≤ 6) (hrs : ∀ z ∈ rs, SpIs s z) (hD : Desk w0 F w bw bx (s.length : Int) M ⟨s, rs⟩) (K A B C : Int) (hK : I64 K) (hA : I64 A) (hB : I64 B) (hC : I64 C) (keep : Bool) (n m : Nat) (hn : pickM A s.length = n) (hm : pickM C 7 = m) (hk : pickM K 9 = 6) :
    Calls Tryz.prog 24 #[ptr bw, .agg #[.int .i64 K, .int .i64 A, .int .i64 B, .int .i64 C], .bool keep] w (DoesPost w0 bw bx M s rs keep) := by
  have hcap := wf.cap
  have hpos := wf.pos
  have hnlt : n < s.length := hn ▸ pickM_lt A wf.pos
  have hm7 : m < 7 := hm ▸ pickM_lt C (by decide)
  have hm0 : (0 : Int) ≤ (m : Int) := by omega
  have hm7' : (m : Int) < 7 := by omega
  have CN : Hid (∀ (F' : Nat → Prop) (W : World), Desk w0 F' W bw bx (s.length : Int) M ⟨s, rs⟩ → Calls Tryz.prog 57 #[ptr bw, .int .i64 A] W fun e w' => e = .returned (.int .i64 (n : Int)) ∧ w' = W) := fun F' W h => by
    have := node_is wf h A hA
    rw [hn] at this
    exact this
  have CP7 : Hid (∀ W : World, Calls Tryz.prog 27 #[.int .i64 C, .int .i64 7] W fun e w' => e = .returned (.int .i64 (m : Int)) ∧ w' = W) := fun W => by
    have := pick_is C hC 7 (by decide) (by decide) W
    rw [hm] at this
    exact this
  have CP9 : Hid (∀ W : World, Calls Tryz.prog 27 #[.int .i64 K, .int .i64 9] W fun e w' => e = .returned (.int .i64 6) ∧ w' = W) := fun W => by
    have := pick_is K hK 9 (by decide) (by decide) W
    rw [hk] at this
    exact this
  have hs40 := size40 wf hnlt
  obtain ⟨h, H, u⟩ := wf.up
  have CB : Hid (∀ (F' : Nat → Prop) (W : World), Desk w0 F' W bw bx (s.length : Int) M ⟨s, rs⟩ → Calls Tryz.prog 61 #[ptr bw, .int .i64 (n : Int)] W fun e w' => e = .returned (.int .i64 (befS (shownF s (h n + 1) n))) ∧ Keeps F' W w' ∧ Desk w0 (grow F' W) w' bw bx (s.length : Int) M ⟨s, rs⟩) := fun F' W hh => before_at hg wf u hh n hnlt
  obtain ⟨bf, hbf⟩ : ∃ q, befS (shownF s (h n + 1) n) = q := ⟨_, rfl⟩
  obtain ⟨c, hc⟩ : ∃ c, pickM C 4 = c := ⟨_, rfl⟩
  have hc4 : c < 4 := hc ▸ pickM_lt C (by decide)
  have CP4 : Hid (∀ W : World, Calls Tryz.prog 27 #[.int .i64 C, .int .i64 4] W fun e w' => e = .returned (.int .i64 (c : Int)) ∧ w' = W) := fun W => by
    have := pick_is C hC 4 (by decide) (by decide) W
    rw [hc] at this
    exact this
  obtain ⟨a2, y2, s2, f2, wf2, R2, L2, C2⟩ := pans_replace s wf rs h6 (fun z hz => (hrs z hz).ok) (n : Int) (pickM B (sizeAt s n + 1) : Int) (c : Int) (bitN m) (bit_size m hm7)
  have hl2 : (s.length : Int) = (s2.length : Int) := by rw [R2.size]
  have hpb : pickM B (sizeAt s n + 1) ≤ sizeAt s n := by have := pickM_lt B (n := sizeAt s n + 1) (by omega); omega
  have POST : Hid ((keep = true → bf < (pickM B (sizeAt s n + 1) : Int) ∨ (pickM B (sizeAt s n + 1) : Int) + (c : Int) ≤ bf) → ∀ (F' : Nat → Prop) (W : World), Desk w0 F' W bw bx (s.length : Int) M ⟨s2, rs.map (mvSp f2)⟩ → DoesPost w0 bw bx M s rs keep (.returned (.tuple #[])) W) := fun hgu F' W h => by
    refine ⟨rfl, F', s2, [f2], .cons ⟨.inr (.inr (.inr (.inl ⟨n, _, c, m, a2, y2, _, H, hnlt, hpb, hm7, u, fun e => ?_, R2⟩))), wf2, L2⟩ .nil, ?_⟩
    · rw [hbf]; exact hgu e
    · rw [map_cons', map_nil']
      exact h.as hl2
  have POST0 : Hid (∀ (F' : Nat → Prop) (W : World), Desk w0 F' W bw bx (s.length : Int) M ⟨s, rs⟩ → DoesPost w0 bw bx M s rs keep (.returned (.tuple #[])) W) := fun F' W h => by
    refine ⟨rfl, F', s, [], .nil, ?_⟩
    rw [map_nil']
    exact h
  rw [hbf] at CB
  have CS : Hid (∀ (F' : Nat → Prop) (W : World), Desk w0 F' W bw bx ((s.length : Int)) M ⟨s, rs⟩ → Calls Tryz.prog 28 #[ptr bw, .int .i64 (n : Int)] W fun e w' => e = .returned (.int .i64 (sizeAt s n : Int)) ∧ Keeps F' W w' ∧ Desk w0 (grow F' W) w' bw bx ((s.length : Int)) M ⟨s, rs⟩) := fun F' W h => size_at hg wf h n hnlt
  have CPX : Hid (∀ W : World, Calls Tryz.prog 27 #[.int .i64 B, .int .i64 ((sizeAt s n : Int) + 1)] W fun e w' => e = .returned (.int .i64 (pickM B (sizeAt s n + 1) : Int)) ∧ w' = W) := fun W => pick_is B hB (sizeAt s n + 1) (by omega) (by omega) W
  have CI := hid (fun (F' : Nat → Prop) (W : World) (h : Desk w0 F' W bw bx (s.length : Int) M ⟨s, rs⟩) => C2 W F' bx (h.gg hg) h.doc)
  obtain ⟨sz, hsz⟩ : ∃ k, sizeAt s n = k := ⟨_, rfl⟩
  rw [hsz] at CS CPX CI POST hs40
  obtain ⟨pk, hpk⟩ : ∃ k, pickM B (sz + 1) = k := ⟨_, rfl⟩
  have hpkl : pk < sz + 1 := hpk ▸ pickM_lt B (by omega)
  rw [hpk] at CPX CI POST
  have hwr : IntKind.i64.wrap ((sz : Int) + 1) = (sz : Int) + 1 := IntWalk.i64_in _ (by omega)
  have HDW0 : Hid (Desk w0 (fun b => F b ∧ b < w.heap.size) (w.alloc (.cells #[.int .i64 K, .int .i64 A, .int .i64 B, .int .i64 C] 56)) bw bx (s.length : Int) M ⟨s, rs⟩) := hD.narrow.below ((Below.refl _ w).alloc (Nat.le_refl _) _)
  clear hD hg wf hrs hk hn hm hA hB hC hK hbf R2 L2 C2 wf2 hl2 u hpb hsz hpk hc
  go_enter Tryz.func24, Tryz.ntmps24
  go_wp2_with (
    go_at_call 57
    refine (CN.out _ _ HDW0.out).mono ?_
    rintro e w1 ⟨rfl, rfl⟩)
  obtain ⟨W, hW⟩ : ∃ W, w.alloc (.cells #[.int .i64 K, .int .i64 A, .int .i64 B, .int .i64 C] 56) = W := ⟨_, rfl⟩
  have hWs : W.heap[w.heap.size]? = some (.cells #[.int .i64 K, .int .i64 A, .int .i64 B, .int .i64 C] 56 (0, 0)) := by rw [← hW]; exact heap_alloc_new w _
  have HD1 : Hid (DeskS w0 (fun b => F b ∧ b < w.heap.size) W bw bx (s.length : Int) M ⟨s, rs⟩ w.heap.size K A B C) := ⟨hW ▸ HDW0.out, hWs, fun e => Nat.lt_irrefl _ e.2⟩
  rw [hW]
  clear hW HDW0
  have s3 := cell_of_heap hWs 3
  clear hWs
  go_region_with (first
    | (go_at_call 58
       refine (bits_at _).mono ?_
       rintro e w2 ⟨b, rfl, hb2, hc2⟩
       have hb2c : Below W.heap.size W w2 := ⟨hb2.os, hb2.tape, hb2.output, hb2.size, hb2.block⟩
       have HD2 := hid (HD1.out.below hb2c)
       have kp2 := HD2.out.cells.2.2.2.2
       have hcm := hc2 m hm7
       clear hb2 hb2c hc2)
    | (go_at_call 27
       refine (CP7.out _).mono ?_
       rintro e w' ⟨rfl, rfl⟩))
  all_goals
    obtain ⟨d0, t0, t1, t2, t3⟩ := HD2.out.cells
    clear hcm kp2 s3 HD1
    go_wp2_with (first
      | (go_at_call 27
         refine (CP9.out _).mono ?_
         rintro e w' ⟨rfl, rfl⟩))
    go_region_held3 (fun w' => w'.cell? ⟨bw, 0, none⟩ = some (ptr bx) ∧ w'.cell? ⟨w.heap.size, 2, none⟩ = some (.int .i64 B)) (first | exact KP6.out | exact KP5.out | go_keep) (first
      | (go_at_call 28
         refine (CS.out _ _ HD2.out.drew.desk).mono ?_
         rintro e w5 ⟨rfl, hk5, hd5⟩
         have HD5 := hid (HD2.out.drew.with hk5 hd5)
         have KP5 := hid (And.intro HD5.out.cells.1 HD5.out.cells.2.2.2.1)
         clear hk5 hd5)
      | (go_at_call 27
         refine (CPX.out _).mono ?_
         rintro e w' ⟨rfl, rfl⟩))
    all_goals
      obtain ⟨e0, f0, f1, f2', f3⟩ := HD5.out.cells
      clear KP5 d0 t0 t1 t2 t3
      cases keep
      · go_wp2_with (first
          | (go_at_call 27
             refine (CP4.out _).mono ?_
             rintro e w' ⟨rfl, rfl⟩)
          | (go_at_call 61
             refine (CB.out _ _ HD5.out.desk).mono ?_
             rintro e w7 ⟨rfl, hk7, hd7⟩
             have HD7 := hid (HD5.out.with hk7 hd7)
             have z0 := HD7.out.desk.cells.1
             clear hk7 hd7)
          | (go_at_call 34
             refine (CI.out _ _ HD7.out.desk).mono ?_
             rintro e w6 ⟨rfl, hk6, hl6⟩
             have HD6 := hid (HD7.out.next hk6 hl6)
             clear hk6 hl6))
        (try simp only [Exit.inBlock, Exit.then])
        refine bodyPost_end (results_none rfl _ _ _) rfl ?_
        first
          | exact POST.out (fun e => absurd e Bool.false_ne_true) _ _ HD6.out.desk
          | exact POST.out (fun _ => .inl g1) _ _ HD6.out.desk
          | exact POST.out (fun _ => .inr g2) _ _ HD6.out.desk
          | exact POST0.out _ _ HD7.out.desk
      · by_cases g1 : bf < (pk : Int)
        · go_wp2_with (first
            | (go_at_call 27
               refine (CP4.out _).mono ?_
               rintro e w' ⟨rfl, rfl⟩)
            | (go_at_call 61
               refine (CB.out _ _ HD5.out.desk).mono ?_
               rintro e w7 ⟨rfl, hk7, hd7⟩
               have HD7 := hid (HD5.out.with hk7 hd7)
               have z0 := HD7.out.desk.cells.1
               clear hk7 hd7)
            | (go_at_call 34
               refine (CI.out _ _ HD7.out.desk).mono ?_
               rintro e w6 ⟨rfl, hk6, hl6⟩
               have HD6 := hid (HD7.out.next hk6 hl6)
               clear hk6 hl6))
          (try simp only [Exit.inBlock, Exit.then])
          refine bodyPost_end (results_none rfl _ _ _) rfl ?_
          first
            | exact POST.out (fun e => absurd e Bool.false_ne_true) _ _ HD6.out.desk
            | exact POST.out (fun _ => .inl g1) _ _ HD6.out.desk
            | exact POST.out (fun _ => .inr g2) _ _ HD6.out.desk
            | exact POST0.out _ _ HD7.out.desk
        · by_cases g2 : (pk : Int) + (c : Int) ≤ bf
          · go_wp2_with (first
              | (go_at_call 27
                 refine (CP4.out _).mono ?_
                 rintro e w' ⟨rfl, rfl⟩)
              | (go_at_call 61
                 refine (CB.out _ _ HD5.out.desk).mono ?_
                 rintro e w7 ⟨rfl, hk7, hd7⟩
                 have HD7 := hid (HD5.out.with hk7 hd7)
                 have z0 := HD7.out.desk.cells.1
                 clear hk7 hd7)
              | (go_at_call 34
                 refine (CI.out _ _ HD7.out.desk).mono ?_
                 rintro e w6 ⟨rfl, hk6, hl6⟩
                 have HD6 := hid (HD7.out.next hk6 hl6)
                 clear hk6 hl6))
            (try simp only [Exit.inBlock, Exit.then])
            refine bodyPost_end (results_none rfl _ _ _) rfl ?_
            first
              | exact POST.out (fun e => absurd e Bool.false_ne_true) _ _ HD6.out.desk
              | exact POST.out (fun _ => .inl g1) _ _ HD6.out.desk
              | exact POST.out (fun _ => .inr g2) _ _ HD6.out.desk
              | exact POST0.out _ _ HD7.out.desk
          · go_wp2_with (first
              | (go_at_call 27
                 refine (CP4.out _).mono ?_
                 rintro e w' ⟨rfl, rfl⟩)
              | (go_at_call 61
                 refine (CB.out _ _ HD5.out.desk).mono ?_
                 rintro e w7 ⟨rfl, hk7, hd7⟩
                 have HD7 := hid (HD5.out.with hk7 hd7)
                 have z0 := HD7.out.desk.cells.1
                 clear hk7 hd7)
              | (go_at_call 34
                 refine (CI.out _ _ HD7.out.desk).mono ?_
                 rintro e w6 ⟨rfl, hk6, hl6⟩
                 have HD6 := hid (HD7.out.next hk6 hl6)
                 clear hk6 hl6))
            (try simp only [Exit.inBlock, Exit.then])
            refine bodyPost_end (results_none rfl _ _ _) rfl ?_
            first
              | exact POST.out (fun e => absurd e Bool.false_ne_true) _ _ HD6.out.desk
              | exact POST.out (fun _ => .inl g1) _ _ HD6.out.desk
              | exact POST.out (fun _ => .inr g2) _ _ HD6.out.desk
              | exact POST0.out _ _ HD7.out.desk
theorem does_k6 {w0 w : World} {F : Nat → Prop} {bw bx : Nat} {M : Int} (hg : GG w0) (wf : WF s) (h6 : rs.length ≤ 6) (hrs : ∀ z ∈ rs, SpIs s z) (hD : Desk w0 F w bw bx (s.length : Int) M ⟨s, rs⟩) (K A B C : Int) (hK : I64 K) (hA : I64 A) (hB : I64 B) (hC : I64 C) (keep : Bool) (hk : pickM K 9 = 6) : Calls Tryz.prog 24 #[ptr bw, .agg #[.int .i64 K, .int .i64 A, .int .i64 B, .int .i64 C], .bool keep] w (DoesPost w0 bw bx M s rs keep) := do6_any hg wf h6 hrs hD K A B C hK hA hB hC keep _ _ rfl rfl hk
end
end Go.Proofs.YtabogkonklplcaaGreatDoor
