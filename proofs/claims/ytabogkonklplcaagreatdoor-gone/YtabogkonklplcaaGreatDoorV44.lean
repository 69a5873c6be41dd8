import Derived.Test.YtabogkonklplcaaGreatDoorV39

namespace Go.Proofs.YtabogkonklplcaaGreatDoor
open Go.RowKit
set_option linter.unusedSimpArgs false
set_option linter.unusedVariables false
def abC : List ByteArray := [⟨#[97]⟩, ⟨#[98]⟩, ⟨#[194, 167]⟩, ⟨#[99]⟩, ⟨#[100]⟩]
def xyC : List ByteArray := [⟨#[120]⟩, ⟨#[121]⟩, ⟨#[122]⟩]
def ndS : List Nd := [⟨false, [], [1, 3], -1⟩, ⟨false, [], [2], 0⟩, ⟨true, abC, [], 1⟩, ⟨true, xyC, [], 0⟩]
def rsS : List Sp := [⟨2, 2, 2, 3⟩, ⟨0, 0, 0, 2⟩]
def hS (n : Nat) : Nat := if n = 0 then 2 else if n = 1 then 1 else 0
theorem ab_takes : Takes ⟨#[97, 98, 194, 167, 99, 100]⟩ abC := ⟨by decide +kernel, by decide⟩
theorem xy_takes : Takes ⟨#[120, 121, 122]⟩ xyC := ⟨by decide +kernel, by decide⟩
theorem upS : Up ndS hS 2 where
  le := fun i => by unfold hS; split; · exact Nat.le_refl _
                    · split <;> omega
  par := fun i x hx hp => by
    match i, hx with
    | 0, hx => cases hx; exact absurd hp (by decide)
    | 1, hx => cases hx; exact ⟨by decide, by decide⟩
    | 2, hx => cases hx; exact ⟨by decide, by decide⟩
    | 3, hx => cases hx; exact ⟨by decide, by decide⟩
    | _ + 4, hx => simp [ndS] at hx
section
variable {s : List Nd} {rs : List Sp}
theorem pinsert_leaf (wf : WF s) (h6 : rs.length ≤ 6) (hrs : ∀ z ∈ rs, SpOk s z) (i j c : Nat) (x y : Nd) (hI : InsOk s i j x y) (hij : i ≠ j) (hk : y.ks = []) (hc : c ≤ x.ks.length) :
    WF ((s.set i { x with ks := x.ks.take c ++ j :: x.ks.drop c }).set j { y with p := (i : Int) }) ∧
    ∀ (w : World) (F : Nat → Prop) (bx : Nat), GG w → PLies w F bx ⟨s, rs⟩ → Calls Tryz.prog 54 #[ptr bx, .int .i64 (i : Int), .int .i64 (j : Int), .int .i64 (c : Int)] w (PLPost F w bx ⟨(s.set i { x with ks := x.ks.take c ++ j :: x.ks.drop c }).set j { y with p := (i : Int) }, rs.map (mvSp (shiftF i c 1))⟩ .nilIface) := by
  have hcap := wf.cap
  obtain ⟨ht0, Bd, u⟩ := wf.up
  have hil := (List.getElem?_eq_some_iff.1 hI.hx).1
  have hj := hI.hj
  have hm : i ∉ allF s (ht0 j + 1) j := by
    rw [allF, kidsOf_eq hI.hy, hk]
    simp
    exact hij
  have hw := holds_no wf u hil (Nat.lt_succ_self _) hm
  obtain ⟨_, hwf⟩ := wf_insert wf hI hw hc
  have hkl : x.ks.length ≤ 40 := Nat.le_trans (nodup_length s.length _ (wf.nodup i x hI.hx) (fun q hq => (wf.kid_lt u hI.hx hq).1)) wf.cap
  refine ⟨hwf, fun w F bx hg hP => ?_⟩
  have := minsert_go hg hP (Small.of wf hrs) h6 i j c (fun F' bf h => tinsert_done wf u h i j (ht0 j + 1) c x y hI (by omega) hm hc hij (by unfold lots; omega) (by unfold lots; omega))
  rw [show errV 0 0 = .nilIface from by simp [errV]] at this
  exact this
end
theorem isCh_ab : abC.length ≤ 30 ∧ ∀ c ∈ abC, IsCh c := ⟨by decide, charsOf_isCh _ _ abC (Nat.le_refl _) ab_takes.1⟩
theorem isCh_xy : xyC.length ≤ 30 ∧ ∀ c ∈ xyC, IsCh c := ⟨by decide, charsOf_isCh _ _ xyC (Nat.le_refl _) xy_takes.1⟩
def nd1 : List Nd := [rootNd, rootNd]
def nd2 : List Nd := [rootNd, rootNd, ⟨true, abC, [], -1⟩]
def nd3 : List Nd := [rootNd, rootNd, ⟨true, abC, [], -1⟩, ⟨true, xyC, [], -1⟩]
def nd4 : List Nd := [⟨false, [], [1], -1⟩, ⟨false, [], [], 0⟩, ⟨true, abC, [], -1⟩, ⟨true, xyC, [], -1⟩]
def nd5 : List Nd := [⟨false, [], [1], -1⟩, ⟨false, [], [2], 0⟩, ⟨true, abC, [], 1⟩, ⟨true, xyC, [], -1⟩]
theorem wf_nd1 : WF nd1 := wf_push wf_root (by decide) rootNd rfl rfl (fun _ => rfl) ⟨by decide, fun c hc => by cases hc⟩
theorem wf_nd2 : WF nd2 := wf_push wf_nd1 (by decide) ⟨true, abC, [], -1⟩ rfl rfl (fun h => by cases h) isCh_ab
theorem wf_nd3 : WF nd3 := wf_push wf_nd2 (by decide) ⟨true, xyC, [], -1⟩ rfl rfl (fun h => by cases h) isCh_xy
theorem ins4 : WF nd4 ∧ ∀ (w : World) (F : Nat → Prop) (bx : Nat), GG w → PLies w F bx ⟨nd3, []⟩ → Calls Tryz.prog 54 #[ptr bx, .int .i64 0, .int .i64 1, .int .i64 0] w (PLPost F w bx ⟨nd4, []⟩ .nilIface) :=
  pinsert_leaf (rs := []) wf_nd3 (by decide) (fun _ h => by cases h) 0 1 0 rootNd rootNd ⟨rfl, rfl, rfl, by decide, by decide⟩ (by decide) rfl (by decide)
theorem ins5 : WF nd5 ∧ ∀ (w : World) (F : Nat → Prop) (bx : Nat), GG w → PLies w F bx ⟨nd4, []⟩ → Calls Tryz.prog 54 #[ptr bx, .int .i64 1, .int .i64 2, .int .i64 0] w (PLPost F w bx ⟨nd5, []⟩ .nilIface) :=
  pinsert_leaf (rs := []) ins4.1 (by decide) (fun _ h => by cases h) 1 2 0 ⟨false, [], [], 0⟩ ⟨true, abC, [], -1⟩ ⟨rfl, rfl, rfl, by decide, by decide⟩ (by decide) rfl (by decide)
theorem ins6 : WF ndS ∧ ∀ (w : World) (F : Nat → Prop) (bx : Nat), GG w → PLies w F bx ⟨nd5, []⟩ → Calls Tryz.prog 54 #[ptr bx, .int .i64 0, .int .i64 3, .int .i64 1] w (PLPost F w bx ⟨ndS, []⟩ .nilIface) :=
  pinsert_leaf (rs := []) ins5.1 (by decide) (fun _ h => by cases h) 0 3 1 ⟨false, [], [1], -1⟩ ⟨true, xyC, [], -1⟩ ⟨rfl, rfl, rfl, by decide, by decide⟩ (by decide) rfl (by decide)
theorem wfS : WF ndS := ins6.1
theorem top0 : IsTop ndS 0 0 := ⟨⟨0, rfl⟩, ⟨_, rfl, rfl⟩⟩
theorem top2 : IsTop ndS 2 0 := ⟨⟨2, rfl⟩, ⟨_, rfl, rfl⟩⟩
structure Lay (w : World) (bx : Nat) (st : St) (W : World) : Prop where
  low : Below w.heap.size w W
  doc : PLies W (fun b => w.heap.size ≤ b) bx st
theorem Lay.next {w : World} {bx : Nat} {st st' : St} {W w' : World} {v : Value} {e : Ending} (h : Lay w bx st W) (hp : PLPost (fun b => w.heap.size ≤ b) W bx st' v e w') : e = .returned v ∧ Lay w bx st' w' := by
  obtain ⟨rfl, hk, hl⟩ := hp
  have hz := h.low.size
  refine ⟨rfl, ?_, hl.wider (fun b e => e.elim id (fun e => by omega))⟩
  have : Keeps (fun _ => False) w w' := (Keeps.of_below h.low).trans (hk.mono (fun b _ e => .inr e))
  exact this.below
theorem setsS : SpIs ndS ⟨2, 2, 2, 3⟩ ∧ SpIs ndS ⟨0, 0, 0, 2⟩ ∧
    (∀ (w : World) (F : Nat → Prop) (bx : Nat), GG w → PLies w F bx ⟨ndS, [⟨0, 0, 0, 0⟩, ⟨0, 0, 0, 0⟩]⟩ → Calls Tryz.prog 32 #[ptr bx, .int .i64 0, .agg #[.int .i64 2, .int .i64 3]] w (PLPost F w bx ⟨ndS, [⟨0, 0, 2, 3⟩, ⟨0, 0, 0, 0⟩]⟩ (errV 0 0))) ∧
    (∀ (w : World) (F : Nat → Prop) (bx : Nat), GG w → PLies w F bx ⟨ndS, [⟨0, 0, 2, 3⟩, ⟨0, 0, 0, 0⟩]⟩ → Calls Tryz.prog 31 #[ptr bx, .int .i64 0, .agg #[.int .i64 2, .int .i64 2]] w (PLPost F w bx ⟨ndS, [⟨2, 2, 2, 3⟩, ⟨0, 0, 0, 0⟩]⟩ (errV 0 0))) ∧
    (∀ (w : World) (F : Nat → Prop) (bx : Nat), GG w → PLies w F bx ⟨ndS, [⟨2, 2, 2, 3⟩, ⟨0, 0, 0, 0⟩]⟩ → Calls Tryz.prog 32 #[ptr bx, .int .i64 1, .agg #[.int .i64 0, .int .i64 2]] w (PLPost F w bx ⟨ndS, rsS⟩ (errV 0 0))) := by
  have fr : SpIs ndS ⟨0, 0, 0, 0⟩ := spIs_lives.fresh wfS
  obtain ⟨z1, _, _, v1, e1, D1⟩ := pend_ok (rs := [⟨0, 0, 0, 0⟩, ⟨0, 0, 0, 0⟩]) spIs_lives wfS upS (by decide) (by intro z hz; simp at hz; rw [hz]; exact fr) 0 2 3 ⟨0, 0, 0, 0⟩ rfl (by decide) (by decide)
  have e1' : z1 = ⟨0, 0, 2, 3⟩ := e1 0 0 0 rfl rfl top2 top0 (by decide +kernel)
  subst e1'
  obtain ⟨z2, _, _, v2, e2, D2⟩ := pstart_ok (rs := [⟨0, 0, 2, 3⟩, ⟨0, 0, 0, 0⟩]) spIs_lives wfS upS (by decide) (by intro z hz; simp at hz; rcases hz with rfl | rfl <;> first | exact v1 | exact fr) 0 2 2 ⟨0, 0, 2, 3⟩ rfl (by decide) (by decide)
  have e2' : z2 = ⟨2, 2, 2, 3⟩ := e2 2 3 0 rfl rfl top2 top2 (by decide +kernel)
  subst e2'
  obtain ⟨z3, _, _, v3, e3, D3⟩ := pend_ok (rs := [⟨2, 2, 2, 3⟩, ⟨0, 0, 0, 0⟩]) spIs_lives wfS upS (by decide) (by intro z hz; simp at hz; rcases hz with rfl | rfl <;> first | exact v2 | exact fr) 1 0 2 ⟨0, 0, 0, 0⟩ rfl (by decide) (by decide)
  have e3' : z3 = ⟨0, 0, 0, 2⟩ := e3 0 0 0 rfl rfl top0 top0 (by decide +kernel)
  subst e3'
  exact ⟨v2, v3, D1, D2, D3⟩
theorem spS : ∀ z ∈ rsS, SpIs ndS z := by
  intro z hz
  simp [rsS] at hz
  rcases hz with rfl | rfl
  · exact setsS.1
  · exact setsS.2.1
set_option maxRecDepth 20000 in
set_option maxHeartbeats 4000000 in
theorem laid_at {w : World} (hg : GG w) : Calls Tryz.prog 23 #[] w fun e w' => ∃ (F : Nat → Prop) (bw bx : Nat), e = .returned (.tuple #[ptr bw, .bool true]) ∧ Desk w F w' bw bx 4 2 ⟨ndS, rsS⟩ := by
  have G : ∀ {W : World} {bx : Nat} {st : St}, Lay w bx st W → GG W := fun h => hg.below h.low
  have C0 : Hid (Calls Tryz.prog 40 #[] w fun e w' => ∃ bx, e = .returned (ptr bx) ∧ Lay w bx ⟨[rootNd], []⟩ w') := (mnew_ok w hg).mono fun e w' ⟨bx, h1, h2, h3⟩ => ⟨bx, h1, h2, h3⟩
  have C1 : Hid (∀ (W : World) (bx : Nat), Lay w bx ⟨[rootNd], []⟩ W → Calls Tryz.prog 52 #[ptr bx] W fun e w' => e = .returned (.tuple #[.int .i64 1, .nilIface]) ∧ Lay w bx ⟨nd1, []⟩ w') := fun W bx h => by
    have := melement_of (G h) h.doc (errOf_nil 0) (fun F' bf hh => telement_some hh (show [rootNd].length < 40 by decide))
    rw [show errV 0 0 = .nilIface from by simp [errV]] at this
    exact this.mono fun e w' hp => h.next hp
  have C2 : Hid (∀ (W : World) (bx : Nat), Lay w bx ⟨nd1, []⟩ W → Calls Tryz.prog 53 #[ptr bx, .string ⟨#[97, 98, 194, 167, 99, 100]⟩] W fun e w' => e = .returned (.tuple #[.int .i64 2, .nilIface]) ∧ Lay w bx ⟨nd2, []⟩ w') := fun W bx h => by
    have := mtext_of (G h) h.doc _ (errOf_nil 0) (fun F' bf hh => ttext_some hh (G h).2 ⟨#[97, 98, 194, 167, 99, 100]⟩ (by unfold lots; decide) abC ab_takes (show nd1.length < 40 by decide))
    rw [show errV 0 0 = .nilIface from by simp [errV]] at this
    exact this.mono fun e w' hp => h.next hp
  have C3 : Hid (∀ (W : World) (bx : Nat), Lay w bx ⟨nd2, []⟩ W → Calls Tryz.prog 53 #[ptr bx, .string ⟨#[120, 121, 122]⟩] W fun e w' => e = .returned (.tuple #[.int .i64 3, .nilIface]) ∧ Lay w bx ⟨nd3, []⟩ w') := fun W bx h => by
    have := mtext_of (G h) h.doc _ (errOf_nil 0) (fun F' bf hh => ttext_some hh (G h).2 ⟨#[120, 121, 122]⟩ (by unfold lots; decide) xyC xy_takes (show nd2.length < 40 by decide))
    rw [show errV 0 0 = .nilIface from by simp [errV]] at this
    exact this.mono fun e w' hp => h.next hp
  have C4 : Hid (∀ (W : World) (bx : Nat), Lay w bx ⟨nd3, []⟩ W → Calls Tryz.prog 54 #[ptr bx, .int .i64 0, .int .i64 1, .int .i64 0] W fun e w' => e = .returned .nilIface ∧ Lay w bx ⟨nd4, []⟩ w') := fun W bx h => (ins4.2 W _ bx (G h) h.doc).mono fun e w' hp => h.next hp
  have C5 : Hid (∀ (W : World) (bx : Nat), Lay w bx ⟨nd4, []⟩ W → Calls Tryz.prog 54 #[ptr bx, .int .i64 1, .int .i64 2, .int .i64 0] W fun e w' => e = .returned .nilIface ∧ Lay w bx ⟨nd5, []⟩ w') := fun W bx h => (ins5.2 W _ bx (G h) h.doc).mono fun e w' hp => h.next hp
  have C6 : Hid (∀ (W : World) (bx : Nat), Lay w bx ⟨nd5, []⟩ W → Calls Tryz.prog 54 #[ptr bx, .int .i64 0, .int .i64 3, .int .i64 1] W fun e w' => e = .returned .nilIface ∧ Lay w bx ⟨ndS, []⟩ w') := fun W bx h => (ins6.2 W _ bx (G h) h.doc).mono fun e w' hp => h.next hp
  have C7 : Hid (∀ (W : World) (bx : Nat), Lay w bx ⟨ndS, []⟩ W → Calls Tryz.prog 55 #[ptr bx, .int .i64 0] W fun e w' => e = .returned (.tuple #[.string ⟨#[60, 48, 32, 60, 49, 32, 50, 39, 97, 98, 194, 167, 99, 100, 39, 62, 32, 51, 39, 120, 121, 122, 39, 62]⟩, .nilIface]) ∧ Lay w bx ⟨ndS, []⟩ w') := fun W bx h => by
    have := pshow_yes (rs := []) wfS upS 0 (by decide) W _ bx (G h) h.doc
    rw [show errV 0 0 = .nilIface from by simp [errV], show shownF ndS (hS 0 + 1) 0 = ⟨#[60, 48, 32, 60, 49, 32, 50, 39, 97, 98, 194, 167, 99, 100, 39, 62, 32, 51, 39, 120, 121, 122, 39, 62]⟩ from by decide +kernel] at this
    exact this.mono fun e w' hp => h.next hp
  have C8 : Hid (∀ (W : World) (bx : Nat), Lay w bx ⟨ndS, []⟩ W → Calls Tryz.prog 56 #[ptr bx] W fun e w' => e = .returned (.tuple #[.int .i64 0, .nilIface]) ∧ Lay w bx ⟨ndS, [⟨0, 0, 0, 0⟩]⟩ w') := fun W bx h => by
    have := mrange_some (G h) h.doc (by decide)
    rw [show errV 0 0 = .nilIface from by simp [errV]] at this
    exact this.mono fun e w' hp => h.next hp
  have C9 : Hid (∀ (W : World) (bx : Nat), Lay w bx ⟨ndS, [⟨0, 0, 0, 0⟩]⟩ W → Calls Tryz.prog 56 #[ptr bx] W fun e w' => e = .returned (.tuple #[.int .i64 1, .nilIface]) ∧ Lay w bx ⟨ndS, [⟨0, 0, 0, 0⟩, ⟨0, 0, 0, 0⟩]⟩ w') := fun W bx h => by
    have := mrange_some (G h) h.doc (by decide)
    rw [show errV 0 0 = .nilIface from by simp [errV]] at this
    exact this.mono fun e w' hp => h.next hp
  obtain ⟨v2, v3, D1, D2, D3⟩ := setsS
  have CA : Hid (∀ (W : World) (bx : Nat), Lay w bx ⟨ndS, [⟨0, 0, 0, 0⟩, ⟨0, 0, 0, 0⟩]⟩ W → Calls Tryz.prog 32 #[ptr bx, .int .i64 0, .agg #[.int .i64 2, .int .i64 3]] W fun e w' => e = .returned .nilIface ∧ Lay w bx ⟨ndS, [⟨0, 0, 2, 3⟩, ⟨0, 0, 0, 0⟩]⟩ w') := fun W bx h => by
    have := D1 W _ bx (G h) h.doc
    rw [show errV 0 0 = .nilIface from by simp [errV]] at this
    exact this.mono fun e w' hp => h.next hp
  have CB : Hid (∀ (W : World) (bx : Nat), Lay w bx ⟨ndS, [⟨0, 0, 2, 3⟩, ⟨0, 0, 0, 0⟩]⟩ W → Calls Tryz.prog 31 #[ptr bx, .int .i64 0, .agg #[.int .i64 2, .int .i64 2]] W fun e w' => e = .returned .nilIface ∧ Lay w bx ⟨ndS, [⟨2, 2, 2, 3⟩, ⟨0, 0, 0, 0⟩]⟩ w') := fun W bx h => by
    have := D2 W _ bx (G h) h.doc
    rw [show errV 0 0 = .nilIface from by simp [errV]] at this
    exact this.mono fun e w' hp => h.next hp
  have CC : Hid (∀ (W : World) (bx : Nat), Lay w bx ⟨ndS, [⟨2, 2, 2, 3⟩, ⟨0, 0, 0, 0⟩]⟩ W → Calls Tryz.prog 32 #[ptr bx, .int .i64 1, .agg #[.int .i64 0, .int .i64 2]] W fun e w' => e = .returned .nilIface ∧ Lay w bx ⟨ndS, rsS⟩ w') := fun W bx h => by
    have := D3 W _ bx (G h) h.doc
    rw [show errV 0 0 = .nilIface from by simp [errV]] at this
    exact this.mono fun e w' hp => h.next hp
  have CD : Hid (∀ (W : World) (bx : Nat), Lay w bx ⟨ndS, rsS⟩ W → Calls Tryz.prog 33 #[ptr bx, .int .i64 0] W fun e w' => e = .returned (.tuple #[.string ⟨#[194, 167]⟩, .nilIface]) ∧ Lay w bx ⟨ndS, rsS⟩ w') := fun W bx h => by
    obtain ⟨i, j, S, hc⟩ : ∃ i j, SpAt ndS 2 ⟨2, 2, 2, 3⟩ 2 2 2 3 0 i j ∧ catB (readR ndS (plF ndS (2 + 1) 0) i (j - i)) = ⟨#[194, 167]⟩ := ⟨4, 5, ⟨rfl, by decide, by decide, top2, top2, by decide, by decide, by decide +kernel, by decide +kernel, by decide⟩, by decide +kernel⟩
    have := pread_yes (rs := rsS) wfS upS 0 2 2 2 3 0 i j _ rfl S W _ bx (G h) h.doc
    rw [show errV 0 0 = .nilIface from by simp [errV], hc] at this
    exact this.mono fun e w' hp => h.next hp
  have CE : Hid (∀ (W : World) (bx : Nat), Lay w bx ⟨ndS, rsS⟩ W → Calls Tryz.prog 33 #[ptr bx, .int .i64 1] W fun e w' => e = .returned (.tuple #[.string ⟨#[97, 98, 194, 167, 99, 100, 120, 121, 122]⟩, .nilIface]) ∧ Lay w bx ⟨ndS, rsS⟩ w') := fun W bx h => by
    obtain ⟨i, j, S, hc⟩ : ∃ i j, SpAt ndS 2 ⟨0, 0, 0, 2⟩ 0 0 0 2 0 i j ∧ catB (readR ndS (plF ndS (2 + 1) 0) i (j - i)) = ⟨#[97, 98, 194, 167, 99, 100, 120, 121, 122]⟩ := ⟨0, 14, ⟨rfl, by decide, by decide, top0, top0, by decide, by decide, by decide +kernel, by decide +kernel, by decide⟩, by decide +kernel⟩
    have := pread_yes (rs := rsS) wfS upS 1 0 0 0 2 0 i j _ rfl S W _ bx (G h) h.doc
    rw [show errV 0 0 = .nilIface from by simp [errV], hc] at this
    exact this.mono fun e w' hp => h.next hp
  clear D1 D2 D3 v2 v3 G hg
  go_enter Tryz.func23, Tryz.ntmps23
  go_wp2_with (first
    | (go_at_call 40; refine C0.out.mono ?_; rintro e w1 ⟨bx, rfl, hl1⟩; have L1 := hid hl1; clear hl1)
    | (go_at_call 52; refine (C1.out _ _ L1.out).mono ?_; rintro e w2 ⟨rfl, hl2⟩; have L2 := hid hl2; clear hl2)
    | (go_at_call 53; refine (C2.out _ _ L2.out).mono ?_; rintro e w3 ⟨rfl, hl3⟩; have L3 := hid hl3; clear hl3 L2)
    | (go_at_call 53; refine (C3.out _ _ L3.out).mono ?_; rintro e w4 ⟨rfl, hl4⟩; have L4 := hid hl4; clear hl4 L3)
    | (go_at_call 54; refine (C4.out _ _ L4.out).mono ?_; rintro e w5 ⟨rfl, hl5⟩; have L5 := hid hl5; clear hl5 L4)
    | (go_at_call 54; refine (C5.out _ _ L5.out).mono ?_; rintro e w6 ⟨rfl, hl6⟩; have L6 := hid hl6; clear hl6 L5)
    | (go_at_call 54; refine (C6.out _ _ L6.out).mono ?_; rintro e w7 ⟨rfl, hl7⟩; have L7 := hid hl7; clear hl7 L6)
    | (go_at_call 55; refine (C7.out _ _ L7.out).mono ?_; rintro e w8 ⟨rfl, hl8⟩; have L8 := hid hl8; clear hl8 L7)
    | (go_at_call 56; refine (C8.out _ _ L8.out).mono ?_; rintro e w9 ⟨rfl, hl9⟩; have L9 := hid hl9; clear hl9 L8)
    | (go_at_call 56; refine (C9.out _ _ L9.out).mono ?_; rintro e wa ⟨rfl, hla⟩; have LA := hid hla; clear hla L9)
    | (go_at_call 32; refine (CA.out _ _ LA.out).mono ?_; rintro e wb ⟨rfl, hlb⟩; have LB := hid hlb; clear hlb LA)
    | (go_at_call 31; refine (CB.out _ _ LB.out).mono ?_; rintro e wc ⟨rfl, hlc⟩; have LC := hid hlc; clear hlc LB)
    | (go_at_call 32; refine (CC.out _ _ LC.out).mono ?_; rintro e wd ⟨rfl, hld⟩; have LD := hid hld; clear hld LC)
    | (go_at_call 33; refine (CD.out _ _ LD.out).mono ?_; rintro e we ⟨rfl, hle⟩; have LE := hid hle; clear hle LD)
    | (go_at_call 33; refine (CE.out _ _ LE.out).mono ?_; rintro e wf ⟨rfl, hlf⟩; have LF := hid hlf; clear hlf LE))
  go_ret2
  have hF := LF.out
  have hz := hF.low.size
  refine ⟨fun b => w.heap.size ≤ b ∧ b < wf.heap.size, wf.heap.size, bx, rfl, hz, heap_alloc_new wf _, fun e => Nat.lt_irrefl _ e.2, fun b e => e.1, ?_, ?_⟩
  · exact hF.doc.narrow.keeps (G := fun _ => False) (Keeps.of_below ((Below.refl _ wf).alloc (Nat.le_refl _) _)) (fun _ _ e => e)
  · exact hF.low.trans (((Below.refl _ wf).alloc (Nat.le_refl _) _).mono hz)
end Go.Proofs.YtabogkonklplcaaGreatDoor
