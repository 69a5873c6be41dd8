import Derived.Test.YtabogkonklplcaaGreatDoorQ35
import Derived.Test.YtabogkonklplcaaGreatDoorQ36

namespace Go.Proofs.YtabogkonklplcaaGreatDoor
open Go.RowKit
set_option linter.unusedSimpArgs false
set_option linter.unusedVariables false
def quoAt (b : ByteArray) : Nat → Nat → Nat
  | 0, i => i
  | f + 1, i => if i < b.size ∧ byteI b i ≠ 39 then quoAt b f (i + 1) else i
def befF (b : ByteArray) : Nat → Nat → Nat → Int
  | 0, _, _ => -1
  | f + 1, i, k => if i + 2 ≤ b.size then
      (if (if byteI b i = 92 then i + 1 else i) + 2 ≤ b.size ∧ isSec b (if byteI b i = 92 then i + 1 else i) = true then (k : Int)
       else befF b f ((if byteI b i = 92 then i + 1 else i) + 1) (if (if byteI b i = 92 then i + 1 else i) < b.size ∧ (byteI b (if byteI b i = 92 then i + 1 else i) < 128 ∨ 192 ≤ byteI b (if byteI b i = 92 then i + 1 else i)) then k + 1 else k))
    else -1
def befS (b : ByteArray) : Int := befF b (b.size + 3) (quoAt b (b.size + 1) 0 + 1) 0
theorem quo_step {b : ByteArray} {f i : Nat} (h1 : i < b.size) (h2 : byteI b i ≠ 39) : quoAt b (f + 1) i = quoAt b f (i + 1) := by
  rw [quoAt, if_pos ⟨h1, h2⟩]
theorem quo_end {b : ByteArray} {f i : Nat} (h : ¬ (i < b.size ∧ byteI b i ≠ 39)) : quoAt b f i = i := by
  cases f with
  | zero => rfl
  | succ f => rw [quoAt, if_neg h]
theorem bef_end {b : ByteArray} {f i k : Nat} (h : ¬ i + 2 ≤ b.size) : befF b f i k = -1 := by
  cases f with
  | zero => rfl
  | succ f => rw [befF, if_neg h]
theorem bef_here {b : ByteArray} {f i k i1 : Nat} (h : i + 2 ≤ b.size) (hi : (if byteI b i = 92 then i + 1 else i) = i1) (h1 : i1 + 2 ≤ b.size) (hs : isSec b i1 = true) : befF b (f + 1) i k = (k : Int) := by
  rw [befF, if_pos h, hi, if_pos ⟨h1, hs⟩]
theorem bef_next {b : ByteArray} {f i k i1 k1 : Nat} (h : i + 2 ≤ b.size) (hi : (if byteI b i = 92 then i + 1 else i) = i1) (hs : ¬ (i1 + 2 ≤ b.size ∧ isSec b i1 = true)) (hk : (if i1 < b.size ∧ (byteI b i1 < 128 ∨ 192 ≤ byteI b i1) then k + 1 else k) = k1) : befF b (f + 1) i k = befF b f (i1 + 1) k1 := by
  rw [befF, if_pos h, hi, if_neg hs, hk]
section
variable {s : List Nd} {rs : List Sp}
set_option maxRecDepth 20000 in
set_option maxHeartbeats 4000000 in
theorem before_at {w0 w : World} {F : Nat → Prop} {bw bx : Nat} {N M : Int} (hg : GG w0) (wf : WF s) {h : Nat → Nat} {H : Nat} (u : Up s h H) (hD : Desk w0 F w bw bx N M ⟨s, rs⟩) (n : Nat) (hn : n < s.length) :
    Calls Tryz.prog 61 #[ptr bw, .int .i64 (n : Int)] w fun e w' => e = .returned (.int .i64 (befS (shownF s (h n + 1) n))) ∧ Keeps F w w' ∧ Desk w0 (grow F w) w' bw bx N M ⟨s, rs⟩ := by
  obtain ⟨d0, d1, d2⟩ := hD.cells
  have C1 := pshow_yes (rs := rs) wf u n hn w F bx (hD.gg hg) hD.doc
  rw [show errV 0 0 = .nilIface from by simp [errV]] at C1
  have CC := hid C1
  have hsm := shown_small wf u n hn
  have HD := hid hD
  clear hD C1 hg wf u
  obtain ⟨b, hS⟩ : ∃ S, shownF s (h n + 1) n = S := ⟨_, rfl⟩
  rw [hS] at CC hsm ⊢
  clear hS
  unfold lots at hsm
  go_enter Tryz.func61, Tryz.ntmps61
  go_wp2_with (
    go_at_call 55
    refine CC.out.mono ?_
    rintro e w1 ⟨rfl, hk1, hl1⟩
    have H1 := hid (And.intro hk1 (HD.out.next hk1 hl1))
    clear hk1 hl1)
  clear d0 d1 d2
  go_loop [7] (fun t7 => ∃ i f : Nat, t7 = .int .i64 (i : Int) ∧ i ≤ b.size ∧ b.size < f + i ∧ quoAt b f i = quoAt b (b.size + 1) 0) (fun t7 => b.size - (intOf t7).toNat)
  case atStart => exact ⟨0, b.size + 1, rfl, Nat.zero_le _, by omega, rfl⟩
  case round =>
    obtain ⟨i, f, rfl, hi, hf, hq⟩ := hrel
    have HQ := hid hq
    clear hq
    by_cases hgo : i < b.size ∧ byteI b i ≠ 39
    · obtain ⟨h1, h39⟩ := hgo
      have h1' : (i : Int) < (b.size : Int) := by omega
      have hbi := byteI_eq b i h1
      obtain ⟨f, rfl⟩ : ∃ g, f = g + 1 := ⟨f - 1, by omega⟩
      have HE := hid ((quo_step (f := f) h1 h39).symm.trans HQ.out)
      go_wp2
      go_round
      case rel => exact ⟨i + 1, f, by first | rfl | simp, by omega, by omega, HE.out⟩
      case measure => simp [intOf]; omega
    · have hq2 : quoAt b (b.size + 1) 0 = i := HQ.out.symm.trans (quo_end hgo)
      have HB : Hid (befS b = befF b (b.size + 3) (i + 1) 0) := by show befS b = _; unfold befS; rw [hq2]
      have hex : (¬ (i : Int) < (b.size : Int)) ∨ (∃ h1 : i < b.size, (i : Int) < (b.size : Int) ∧ ((b[i]'h1).toNat : Int) = byteI b i ∧ byteI b i = 39) := by
        by_cases h1 : i < b.size
        · exact .inr ⟨h1, by omega, byteI_eq b i h1, Classical.byContradiction (fun e => hgo ⟨h1, e⟩)⟩
        · exact .inl (by omega)
      clear hq2 HQ hgo
      rcases hex with h1' | ⟨h1, h1', hbi, h39⟩
      all_goals
        go_wp2
        clear h1'
        go_loop [8, 9] (fun t8 t9 => ∃ i k f : Nat, t8 = .int .i64 (k : Int) ∧ t9 = .int .i64 (i : Int) ∧ k ≤ i ∧ i ≤ b.size + 1 ∧ b.size + 1 < f + i ∧ befF b f i k = befS b) (fun _ t9 => b.size + 2 - (intOf t9).toNat)
        case atStart => exact ⟨i + 1, 0, b.size + 3, rfl, by first | rfl | simp, by omega, by omega, by omega, HB.out.symm⟩
        case round =>
          clear HB
          obtain ⟨i, k, f, rfl, rfl, hki, hi, hf, hbef⟩ := hrel
          have HBF := hid hbef
          clear hbef
          by_cases h2 : i + 2 ≤ b.size
          · have h2' : (i : Int) + 2 ≤ (b.size : Int) := by omega
            obtain ⟨f, rfl⟩ : ∃ g, f = g + 1 := ⟨f - 1, by omega⟩
            have hbi := byteI_eq b i (by omega)
            have e2 : ((i : Int) + 2).toNat = i + 2 := by omega
            by_cases h92 : byteI b i = 92
            · have e1 : ((i : Int) + 1).toNat = i + 1 := by omega
              have e3 : ((i : Int) + 1 + 2).toNat = i + 1 + 2 := by omega
              by_cases h3 : i + 1 + 2 ≤ b.size
              · have h3' : (i : Int) + 1 + 2 ≤ (b.size : Int) := by omega
                by_cases hs : ((b.extract (i + 1) (i + 1 + 2)).toList == [194, 167]) = true
                · have HR : Hid (befS b = (k : Int)) := HBF.out.symm.trans (bef_here h2 (if_pos h92) h3 hs)
                  go_wp2
                  go_ret
                  exact ⟨by rw [HR.out]; rfl, H1.out⟩
                · have HNS : Hid (¬ (i + 1 + 2 ≤ b.size ∧ isSec b (i + 1) = true)) := fun e => hs e.2
                  have hs' : ((b.extract (i + 1) (i + 1 + 2)).toList == [194, 167]) = false := by simpa using hs
                  clear hs
                  have hb1 := byteI_eq b (i + 1) (by omega)
                  have hl1 : (i : Int) + 1 < (b.size : Int) := by omega
                  by_cases h128 : byteI b (i + 1) < 128
                  · have HN : Hid (befF b f (i + 1 + 1) (k + 1) = befS b) := (bef_next h2 (if_pos h92) HNS.out (if_pos ⟨by omega, .inl h128⟩)).symm.trans HBF.out
                    go_wp2
                    go_round
                    case rel => exact ⟨i + 1 + 1, k + 1, f, by first | rfl | simp | (simp; omega), by first | rfl | simp | (simp; omega), by omega, by omega, by omega, HN.out⟩
                    case measure => simp [intOf]; omega
                  · by_cases h192 : (192 : Int) ≤ byteI b (i + 1)
                    · have HN : Hid (befF b f (i + 1 + 1) (k + 1) = befS b) := (bef_next h2 (if_pos h92) HNS.out (if_pos ⟨by omega, .inr h192⟩)).symm.trans HBF.out
                      go_wp2
                      go_round
                      case rel => exact ⟨i + 1 + 1, k + 1, f, by first | rfl | simp | (simp; omega), by first | rfl | simp | (simp; omega), by omega, by omega, by omega, HN.out⟩
                      case measure => simp [intOf]; omega
                    · have HN : Hid (befF b f (i + 1 + 1) (k) = befS b) := (bef_next h2 (if_pos h92) HNS.out (if_neg (fun e => e.2.elim h128 h192))).symm.trans HBF.out
                      go_wp2
                      go_round
                      case rel => exact ⟨i + 1 + 1, k, f, by first | rfl | simp | (simp; omega), by first | rfl | simp | (simp; omega), by omega, by omega, by omega, HN.out⟩
                      case measure => simp [intOf]; omega
              · have h3' : ¬ (i : Int) + 1 + 2 ≤ (b.size : Int) := by omega
                have HNS : Hid (¬ (i + 1 + 2 ≤ b.size ∧ isSec b (i + 1) = true)) := fun e => h3 e.1
                have hb1 := byteI_eq b (i + 1) (by omega)
                have hl1 : (i : Int) + 1 < (b.size : Int) := by omega
                by_cases h128 : byteI b (i + 1) < 128
                · have HN : Hid (befF b f (i + 1 + 1) (k + 1) = befS b) := (bef_next h2 (if_pos h92) HNS.out (if_pos ⟨by omega, .inl h128⟩)).symm.trans HBF.out
                  go_wp2
                  go_round
                  case rel => exact ⟨i + 1 + 1, k + 1, f, by first | rfl | simp | (simp; omega), by first | rfl | simp | (simp; omega), by omega, by omega, by omega, HN.out⟩
                  case measure => simp [intOf]; omega
                · by_cases h192 : (192 : Int) ≤ byteI b (i + 1)
                  · have HN : Hid (befF b f (i + 1 + 1) (k + 1) = befS b) := (bef_next h2 (if_pos h92) HNS.out (if_pos ⟨by omega, .inr h192⟩)).symm.trans HBF.out
                    go_wp2
                    go_round
                    case rel => exact ⟨i + 1 + 1, k + 1, f, by first | rfl | simp | (simp; omega), by first | rfl | simp | (simp; omega), by omega, by omega, by omega, HN.out⟩
                    case measure => simp [intOf]; omega
                  · have HN : Hid (befF b f (i + 1 + 1) (k) = befS b) := (bef_next h2 (if_pos h92) HNS.out (if_neg (fun e => e.2.elim h128 h192))).symm.trans HBF.out
                    go_wp2
                    go_round
                    case rel => exact ⟨i + 1 + 1, k, f, by first | rfl | simp | (simp; omega), by first | rfl | simp | (simp; omega), by omega, by omega, by omega, HN.out⟩
                    case measure => simp [intOf]; omega
            · by_cases hs : ((b.extract i (i + 2)).toList == [194, 167]) = true
              · have HR : Hid (befS b = (k : Int)) := HBF.out.symm.trans (bef_here h2 (if_neg h92) h2 hs)
                go_wp2
                go_ret
                exact ⟨by rw [HR.out]; rfl, H1.out⟩
              · have HNS : Hid (¬ (i + 2 ≤ b.size ∧ isSec b i = true)) := fun e => hs e.2
                have hs' : ((b.extract i (i + 2)).toList == [194, 167]) = false := by simpa using hs
                clear hs
                have hb1 := byteI_eq b (i) (by omega)
                have hl1 : (i : Int) < (b.size : Int) := by omega
                by_cases h128 : byteI b (i) < 128
                · have HN : Hid (befF b f (i + 1) (k + 1) = befS b) := (bef_next h2 (if_neg h92) HNS.out (if_pos ⟨by omega, .inl h128⟩)).symm.trans HBF.out
                  go_wp2
                  go_round
                  case rel => exact ⟨i + 1, k + 1, f, by first | rfl | simp | (simp; omega), by first | rfl | simp | (simp; omega), by omega, by omega, by omega, HN.out⟩
                  case measure => simp [intOf]; omega
                · by_cases h192 : (192 : Int) ≤ byteI b (i)
                  · have HN : Hid (befF b f (i + 1) (k + 1) = befS b) := (bef_next h2 (if_neg h92) HNS.out (if_pos ⟨by omega, .inr h192⟩)).symm.trans HBF.out
                    go_wp2
                    go_round
                    case rel => exact ⟨i + 1, k + 1, f, by first | rfl | simp | (simp; omega), by first | rfl | simp | (simp; omega), by omega, by omega, by omega, HN.out⟩
                    case measure => simp [intOf]; omega
                  · have HN : Hid (befF b f (i + 1) (k) = befS b) := (bef_next h2 (if_neg h92) HNS.out (if_neg (fun e => e.2.elim h128 h192))).symm.trans HBF.out
                    go_wp2
                    go_round
                    case rel => exact ⟨i + 1, k, f, by first | rfl | simp | (simp; omega), by first | rfl | simp | (simp; omega), by omega, by omega, by omega, HN.out⟩
                    case measure => simp [intOf]; omega
          · have h2' : ¬ (i : Int) + 2 ≤ (b.size : Int) := by omega
            have HR : Hid (befS b = -1) := HBF.out.symm.trans (bef_end h2)
            go_wp2
            go_ret
            exact ⟨by rw [HR.out]; rfl, H1.out⟩
end
end Go.Proofs.YtabogkonklplcaaGreatDoor

namespace Go.Proofs.YtabogkonklplcaaGreatDoor
open Go.RowKit
set_option linter.unusedSimpArgs false
set_option linter.unusedVariables false
theorem InsR.size {s s' : List Nd} {A B C a y : Int} {f : Mvf} (h : InsR s A B C a y s' f) : s'.length = s.length := by
  rcases h with ⟨_, rfl, _⟩ | ⟨_, i, j, c, x, v, _, _, _, _, _, _, _, rfl, _⟩
  · rfl
  · simp
theorem RemR.size {s s' : List Nd} {A a y : Int} {f : Mvf} (h : RemR s A a y s' f) : s'.length = s.length := by
  rcases h with ⟨_, rfl, _⟩ | ⟨_, i, _, h⟩
  · rfl
  · cases h; simp
theorem RepR.size {s s' : List Nd} {A B C a y : Int} {t : ByteArray} {f : Mvf} (h : RepR s A B C t a y s' f) : s'.length = s.length := by
  rcases h with ⟨_, rfl, _⟩ | ⟨_, n, o, cm, x, lf, _, _, _, _, _, _, _, _, rfl, _⟩
  · rfl
  · simp
theorem SplR.size {s s' : List Nd} {A B r a y : Int} {f : Mvf} (h : SplR s A B r a y s' f) (hy : y = 0) : r = (s.length : Int) ∧ s'.length = s.length + 1 := by
  rcases h with ⟨h0, _⟩ | ⟨_, hr, _, n, k, x, _, _, _, _, _, h⟩
  · exact absurd hy h0
  · refine ⟨hr, ?_⟩
    rcases h with ⟨_, rfl, _⟩ | ⟨j, m, y, _, _, _, _, _, rfl, _⟩ <;> simp
theorem SplR.same {s s' : List Nd} {A B r a y : Int} {f : Mvf} (h : SplR s A B r a y s' f) (hy : y ≠ 0) : s' = s := by
  rcases h with ⟨_, rfl, _⟩ | ⟨h0, _⟩
  · rfl
  · exact absurd h0 hy
def Act1 (keep : Bool) (s s' : List Nd) (f : Mvf) : Prop :=
  (∃ (n a y : Int) (nd : Nd), (nd = rootNd ∨ ∃ m : Nat, m < 7 ∧ nd = ⟨true, bitC m, [], -1⟩) ∧ NewR s nd n a y s' f) ∨
  (∃ A B C a y : Int, InsR s A B C a y s' f) ∨
  (∃ (i : Nat) (a y : Int) (h : Nat → Nat) (H : Nat), i < s.length ∧ Up s h H ∧ (keep = true → cntS (shownF s (h i + 1) i) = 0) ∧ RemR s (i : Int) a y s' f) ∨
  (∃ (n o c m : Nat) (a y : Int) (h : Nat → Nat) (H : Nat), n < s.length ∧ o ≤ sizeAt s n ∧ m < 7 ∧ Up s h H ∧ (keep = true → befS (shownF s (h n + 1) n) < (o : Int) ∨ (o : Int) + (c : Int) ≤ befS (shownF s (h n + 1) n)) ∧ RepR s (n : Int) (o : Int) (c : Int) (bitN m) a y s' f) ∨
  (∃ A B n a y : Int, SplR s A B n a y s' f)
structure Did1 (keep : Bool) (s s' : List Nd) (f : Mvf) : Prop where
  act : Act1 keep s s' f
  wf : WF s'
  lives : ∀ V : List Nd → Sp → Prop, Lives V → ∀ z, V s z → V s' (mvSp f z)
inductive Dids (keep : Bool) : List Nd → List Nd → List Mvf → Prop
  | nil {s : List Nd} : Dids keep s s []
  | cons {s s1 s' : List Nd} {f : Mvf} {fs : List Mvf} : Did1 keep s s1 f → Dids keep s1 s' fs → Dids keep s s' (f :: fs)
theorem Dids.lives {keep : Bool} {s s' : List Nd} {fs : List Mvf} (h : Dids keep s s' fs) {V : List Nd → Sp → Prop} (hV : Lives V) : ∀ z, V s z → V s' (mvSp (compF fs) z) := by
  induction h with
  | nil => intro z hz; rw [compF_nil]; exact hz
  | cons c _ ih => intro z hz; rw [compF_cons]; exact ih _ (c.lives V hV z hz)
theorem Dids.wf {keep : Bool} {s s' : List Nd} {fs : List Mvf} (h : Dids keep s s' fs) (wf : WF s) : WF s' := by
  induction h with
  | nil => exact wf
  | cons c _ ih => exact ih c.wf
theorem Dids.all {keep : Bool} {s s' : List Nd} {fs : List Mvf} (h : Dids keep s s' fs) {V : List Nd → Sp → Prop} (hV : Lives V) {rs : List Sp} (hr : ∀ z ∈ rs, V s z) : ∀ z ∈ rs.map (mvSp (compF fs)), V s' z :=
  mapV hr (h.lives hV)
def DoesPost (w0 : World) (bw bx : Nat) (M : Int) (s : List Nd) (rs : List Sp) (keep : Bool) (e : Ending) (w' : World) : Prop :=
  e = .returned (.tuple #[]) ∧ ∃ (F' : Nat → Prop) (s' : List Nd) (fs : List Mvf), Dids keep s s' fs ∧ Desk w0 F' w' bw bx (s'.length : Int) M ⟨s', rs.map (mvSp (compF fs))⟩
theorem Desk.setN {w0 w : World} {F : Nat → Prop} {bw bx : Nat} {n mine : Int} {st : St} (h : Desk w0 F w bw bx n mine st) (n' : Int) : Desk w0 F (w.setCell ⟨bw, 1, none⟩ (.int .i64 n')) bw bx n' mine st := by
  have hk : Keeps (fun b => b = bw) w (w.setCell ⟨bw, 1, none⟩ (.int .i64 n')) := (Keeps.refl (fun b => b = bw) w).setCell (p := ⟨bw, 1, none⟩) (.inl rfl) _
  have hn := h.new
  refine ⟨h.new, ?_, h.out, h.ge, h.doc.keeps hk (fun b hb e => h.out (e ▸ hb)), ?_⟩
  · have := heap_setCell_same w bw 1 _ _ (.int .i64 n') h.at_
    simpa using this
  · have : Keeps (fun _ => False) w0 (w.setCell ⟨bw, 1, none⟩ (.int .i64 n')) := (Keeps.of_below h.low).trans (hk.mono (fun b _ e => .inr (by omega)))
    exact this.below
theorem Desk.as {w0 w : World} {F : Nat → Prop} {bw bx : Nat} {n n' mine : Int} {st : St} (h : Desk w0 F w bw bx n mine st) (e : n = n') : Desk w0 F w bw bx n' mine st := e ▸ h
structure DeskS (w0 : World) (F : Nat → Prop) (w : World) (bw bx : Nat) (n mine : Int) (st : St) (sb : Nat) (K A B C : Int) : Prop where
  desk : Desk w0 F w bw bx n mine st
  at_ : w.heap[sb]? = some (.cells #[.int .i64 K, .int .i64 A, .int .i64 B, .int .i64 C] 56 (0, 0))
  out : ¬ F sb
section
variable {w0 w w' : World} {F : Nat → Prop} {bw bx sb : Nat} {n n' mine K A B C : Int} {st st' : St}
theorem DeskS.ne (h : DeskS w0 F w bw bx n mine st sb K A B C) : ¬ sb = bw := fun e => by
  have h1 := h.at_
  rw [e, h.desk.at_] at h1
  simp at h1
theorem DeskS.below (h : DeskS w0 F w bw bx n mine st sb K A B C) (hb : Below w.heap.size w w') : DeskS w0 F w' bw bx n mine st sb K A B C :=
  ⟨h.desk.below hb, (hb.block _ (heap_lt h.at_)).trans h.at_, h.out⟩
theorem DeskS.drew (h : DeskS w0 F w bw bx n mine st sb K A B C) : DeskS w0 F w.drew bw bx n mine st sb K A B C := h.below (Below.refl _ _).drew
theorem DeskS.with (h : DeskS w0 F w bw bx n mine st sb K A B C) (hk : Keeps F w w') (hd : Desk w0 (grow F w) w' bw bx n' mine st') : DeskS w0 (grow F w) w' bw bx n' mine st' sb K A B C :=
  ⟨hd, (hk.block _ (heap_lt h.at_) h.out).trans h.at_, fun e => e.elim h.out (fun e => Nat.not_le_of_lt (heap_lt h.at_) e)⟩
theorem DeskS.next (h : DeskS w0 F w bw bx n mine st sb K A B C) (hk : Keeps F w w') (hl : PLies w' (grow F w) bx st') : DeskS w0 (grow F w) w' bw bx n mine st' sb K A B C :=
  h.with hk (h.desk.next hk hl)
theorem DeskS.setN (h : DeskS w0 F w bw bx n mine st sb K A B C) (n' : Int) : DeskS w0 F (w.setCell ⟨bw, 1, none⟩ (.int .i64 n')) bw bx n' mine st sb K A B C := by
  have hk : Keeps (fun b => b = bw) w (w.setCell ⟨bw, 1, none⟩ (.int .i64 n')) := (Keeps.refl (fun b => b = bw) w).setCell (p := ⟨bw, 1, none⟩) (.inl rfl) _
  exact ⟨h.desk.setN n', (hk.block _ (heap_lt h.at_) h.ne).trans h.at_, h.out⟩
theorem DeskS.cells (h : DeskS w0 F w bw bx n mine st sb K A B C) : w.cell? ⟨bw, 0, none⟩ = some (ptr bx) ∧ w.cell? ⟨sb, 0, none⟩ = some (.int .i64 K) ∧ w.cell? ⟨sb, 1, none⟩ = some (.int .i64 A) ∧ w.cell? ⟨sb, 2, none⟩ = some (.int .i64 B) ∧ w.cell? ⟨sb, 3, none⟩ = some (.int .i64 C) :=
  ⟨h.desk.cells.1, cell_of_heap h.at_ 0, cell_of_heap h.at_ 1, cell_of_heap h.at_ 2, cell_of_heap h.at_ 3⟩
end
section
variable {s : List Nd} {rs : List Sp}
set_option maxRecDepth 20000 in
set_option maxHeartbeats 1000000 in
theorem node_is {w0 w : World} {F : Nat → Prop} {bw bx : Nat} {M : Int} (wf : WF s) (hD : Desk w0 F w bw bx (s.length : Int) M ⟨s, rs⟩) (c : Int) (hc : I64 c) :
    Calls Tryz.prog 57 #[ptr bw, .int .i64 c] w fun e w' => e = .returned (.int .i64 (pickM c s.length : Int)) ∧ w' = w := by
  obtain ⟨d0, d1, d2⟩ := hD.cells
  have C := hid (fun W => pick_is c hc s.length wf.pos (by have := wf.cap; omega) W)
  clear hD wf
  go_enter Tryz.func57, Tryz.ntmps57
  go_wp2_with (
    go_at_call 27
    refine (C.out _).mono ?_
    rintro e w1 ⟨rfl, rfl⟩)
  go_ret
  exact ⟨rfl, rfl⟩
end
theorem size40 {s : List Nd} (wf : WF s) {n : Nat} (hn : n < s.length) : sizeAt s n ≤ 40 := by
  rw [sizeAt_eq (List.getElem?_eq_getElem hn)]
  exact sizeN_le wf (List.getElem?_eq_getElem hn)
end Go.Proofs.YtabogkonklplcaaGreatDoor
