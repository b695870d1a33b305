/- RelationPairs: the law's own text, walked: it returns true for every relation, number and list of pairs. -/
import Derived.Test.YtfjikeejifhnbaaDoorRTpa
import Derived.Test.YtfjikeejifhnbaaDoorRTma
import Derived.Lib.QuietBelow
namespace Go.Proofs.YtfjikeejifhnbaaDoor
open Go.RowKit Go.Sort
theorem mk_bad (n : Nat) (A : Option Addr) (m c : Nat) (z : Nat → Int × Int) (w : World) (hn : n ≤ 512) (h : Prs w A m z) (hm : m ≤ 1000000) (hb : ¬ ∀ k, k < m → 0 ≤ (z k).1 ∧ (z k).1 < n ∧ 0 ≤ (z k).2 ∧ (z k).2 < n) :
    Calls Tryd.prog 11 #[.int .i64 n, .slice A m c] w (RelErr w 2) := by
  by_cases h1 : ∀ k, k < m → 0 ≤ (z k).1 ∧ (z k).1 < n
  · have h2 : ¬ ∀ i, i < n → InL n (lst z m i) := fun hall => hb fun k hk => by
      have h3 := h1 k hk
      obtain ⟨q, hq⟩ := List.mem_iff_getElem?.1 ((mem_lst (z := z) (x := (z k).2) (K := m) (i := (z k).1.toNat)).2 ⟨k, hk, rfl, rfl⟩)
      obtain ⟨hql, hqe⟩ := List.getElem?_eq_some_iff.1 hq
      have h4 := hall (z k).1.toNat (by omega) q hql
      have e : zgets (lst z m (z k).1.toNat) q = (z k).2 := by unfold zgets; rw [List.getD_eq_getElem?_getD, hq]; rfl
      rw [e] at h4
      exact ⟨h3.1, h3.2, h4.1, h4.2⟩
    obtain ⟨I, h3, h4, h5⟩ := first_bad (p := fun i => InL n (lst z m i)) (n := n) h2
    exact (make_any n A m c z I false w hn h hm h1 (by omega) (fun i hi => h5 i hi) (Or.inr ⟨rfl, h3, h4⟩)).mono fun e w' h => by
      rcases h with ⟨h, _⟩ | ⟨_, h⟩
      · cases h
      · exact h
  · obtain ⟨J, h3, h4, h5⟩ := first_bad (p := fun k => 0 ≤ (z k).1 ∧ (z k).1 < n) (n := m) h1
    exact make_i n A m c z J w hn h hm h3 h5 (by omega)
def PIn (N : Int) (m : Nat) (z : Nat → Int × Int) : Prop := 0 ≤ N ∧ N ≤ 512 ∧ ∀ k, k < m → 0 ≤ (z k).1 ∧ (z k).1 < N ∧ 0 ≤ (z k).2 ∧ (z k).2 < N
theorem mk_no (N : Int) (A : Option Addr) (m c : Nat) (z : Nat → Int × Int) (w : World) (h : Prs w A m z) (hm : m ≤ 1000000) (hb : ¬ PIn N m z) :
    Calls Tryd.prog 11 #[.int .i64 N, .slice A m c] w (RelErr w 2) := by
  by_cases h0 : 0 ≤ N ∧ N ≤ 512
  · obtain ⟨n, rfl⟩ : ∃ n : Nat, N = (n : Int) := ⟨N.toNat, by omega⟩
    exact mk_bad n A m c z w (by omega) h hm (fun hall => hb ⟨h0.1, h0.2, hall⟩)
  · exact make_size N A m c w (by omega)
theorem rmk_no (N : Int) (A : Option Addr) (m c : Nat) (z : Nat → Int × Int) (w : World) (h : Prs w A m z) (hm : m ≤ 1000000) (hb : ¬ PIn N m z) :
    Calls Tryd.prog 12 #[.int .i64 N, .slice A m c] w fun e w' => e = .returned (.tuple #[.agg #[.slice none 0 0], .bool false]) ∧ Below w.heap.size w w' := by
  by_cases h0 : 0 ≤ N ∧ N ≤ 512
  · obtain ⟨n, rfl⟩ : ∃ n : Nat, N = (n : Int) := ⟨N.toNat, by omega⟩
    obtain ⟨J, h3, h4, h5⟩ := first_bad (p := fun k => 0 ≤ (z k).1 ∧ (z k).1 < n ∧ 0 ≤ (z k).2 ∧ (z k).2 < n) (n := m) (fun hall => hb ⟨h0.1, h0.2, hall⟩)
    exact (refMake_any n A m c z J false w (by omega) h hm (by omega) h5 (Or.inr ⟨rfl, h3, h4⟩)).mono fun e w' h => by
      rcases h with ⟨h, _⟩ | ⟨_, h⟩
      · cases h
      · exact h
  · exact refMake_size N _ w (by omega)
def RMOk (w : World) (n m : Nat) (z : Nat → Int × Int) (e : Ending) (w' : World) : Prop := ∃ A c R, e = .returned (.tuple #[.agg #[.slice A n c], .bool true]) ∧ Rel w' A n R ∧ VRel n R ∧ (∀ i, i < n → ∀ j, j < n → mat R i j = TwoOf z m i j) ∧ Below w.heap.size w w'
theorem rmk_yes (n : Nat) (A : Option Addr) (m c : Nat) (z : Nat → Int × Int) (w : World) (h : Prs w A m z) (hm : m ≤ 1000000) (hb : PIn n m z) :
    Calls Tryd.prog 12 #[.int .i64 n, .slice A m c] w (RMOk w n m z) :=
  (refMake_any n A m c z m true w (by have := hb.2.1; omega) h hm (Nat.le_refl _) hb.2.2 (Or.inl ⟨rfl, rfl⟩)).mono fun e w' h => by
    rcases h with ⟨_, h⟩ | ⟨h, _⟩
    · exact h
    · cases h
set_option maxRecDepth 100000 in
set_option maxHeartbeats 16000000 in
theorem pa_big (A : Option Addr) (n ca : Nat) (R : Nat → RowD) (N : Int) (B : Option Addr) (m cb : Nat) (z : Nat → Int × Int) (w : World) (hx : Rel w A n R) (hp : Prs w B m z) (hT : Tab w) (hg : Great n R) :
    Calls Tryd.prog 3 #[.agg #[.slice A n ca], .int .i64 N, .slice B m cb] w fun e w' => e = .returned (.bool true) ∧ Below w.heap.size w w' := by
  have HG := Lib.hid hg; clear hg
  have hT0 : RelAt (w.alloc (.cells #[.slice A n ca] 24)) w.heap.size A n ca := relAt_new w A n ca
  have b0 : Below w.heap.size w (w.alloc (.cells #[.slice A n ca] 24)) := (Below.refl _ _).alloc (Nat.le_refl _) _
  have HH := Lib.hid hx; clear hx
  have HP := Lib.hid hp; clear hp
  go_enter Tryd.func3, Tryd.ntmps3
  go_wp2_with fail
  refine (awake_any _ (hT.below b0)).mono ?_; rintro e w1 ⟨rfl, k1⟩
  have r1 := hT0.below k1
  have b1 := below_next b0 k1
  clear hT0 b0 k1
  have c0 := r1.c0
  go_wp2_with fail
  clear c0
  refine (great_any w1.heap.size 1 (fun _ => ⟨A, n, ca, R⟩) true _ (rels_one w1 (fun _ => ⟨A, n, ca, R⟩) (HH.out.below b1)) (by decide) (Or.inl ⟨rfl, 0, by decide, HG.out⟩)).mono ?_; rintro e w2 ⟨rfl, k2⟩
  have k2' := ((Below.refl w1.heap.size w1).alloc (Nat.le_refl _) (.cells #[.slice A n ca] 24)).trans (k2.mono (by simp))
  have r2 := r1.below k2'
  have b2 := below_next b1 k2'
  clear r1 b1 k2 k2'
  go_wp2_with fail
  go_ret
  exact ⟨rfl, b2⟩
set_option maxRecDepth 100000 in
set_option maxHeartbeats 16000000 in
theorem pa_long (A : Option Addr) (n ca : Nat) (R : Nat → RowD) (N : Int) (B : Option Addr) (m cb : Nat) (z : Nat → Int × Int) (w : World) (hx : Rel w A n R) (hp : Prs w B m z) (hT : Tab w) (hg : ¬ Great n R) (hm : 200 < m) :
    Calls Tryd.prog 3 #[.agg #[.slice A n ca], .int .i64 N, .slice B m cb] w fun e w' => e = .returned (.bool true) ∧ Below w.heap.size w w' := by
  have HG := Lib.hid hg; clear hg
  have d1 : decide (200 < (m : Int)) = true := decide_eq_true (by omega)
  have hT0 : RelAt (w.alloc (.cells #[.slice A n ca] 24)) w.heap.size A n ca := relAt_new w A n ca
  have b0 : Below w.heap.size w (w.alloc (.cells #[.slice A n ca] 24)) := (Below.refl _ _).alloc (Nat.le_refl _) _
  have HH := Lib.hid hx; clear hx
  have HP := Lib.hid hp; clear hp
  go_enter Tryd.func3, Tryd.ntmps3
  go_wp2_with fail
  refine (awake_any _ (hT.below b0)).mono ?_; rintro e w1 ⟨rfl, k1⟩
  have r1 := hT0.below k1
  have b1 := below_next b0 k1
  clear hT0 b0 k1
  have c0 := r1.c0
  go_wp2_with fail
  clear c0
  refine (great_any w1.heap.size 1 (fun _ => ⟨A, n, ca, R⟩) false _ (rels_one w1 (fun _ => ⟨A, n, ca, R⟩) (HH.out.below b1)) (by decide) (Or.inr ⟨rfl, fun _ _ => HG.out⟩)).mono ?_; rintro e w2 ⟨rfl, k2⟩
  have k2' := ((Below.refl w1.heap.size w1).alloc (Nat.le_refl _) (.cells #[.slice A n ca] 24)).trans (k2.mono (by simp))
  have r2 := r1.below k2'
  have b2 := below_next b1 k2'
  clear r1 b1 k2 k2'
  go_wp2_with fail
  go_ret
  exact ⟨rfl, b2⟩
set_option maxRecDepth 100000 in
set_option maxHeartbeats 16000000 in
theorem pa_mid (A : Option Addr) (n ca : Nat) (R : Nat → RowD) (N : Int) (B : Option Addr) (m cb : Nat) (z : Nat → Int × Int) (w : World) (hx : Rel w A n R) (hp : Prs w B m z) (hT : Tab w) (hg : ¬ Great n R) (hm : m ≤ 200) (h6 : 60 < N) (h5 : N ≤ 512) :
    Calls Tryd.prog 3 #[.agg #[.slice A n ca], .int .i64 N, .slice B m cb] w fun e w' => e = .returned (.bool true) ∧ Below w.heap.size w w' := by
  have HG := Lib.hid hg; clear hg
  have d1 : decide (200 < (m : Int)) = false := decide_eq_false (by omega)
  have hT0 : RelAt (w.alloc (.cells #[.slice A n ca] 24)) w.heap.size A n ca := relAt_new w A n ca
  have b0 : Below w.heap.size w (w.alloc (.cells #[.slice A n ca] 24)) := (Below.refl _ _).alloc (Nat.le_refl _) _
  have HH := Lib.hid hx; clear hx
  have HP := Lib.hid hp; clear hp
  go_enter Tryd.func3, Tryd.ntmps3
  go_wp2_with fail
  refine (awake_any _ (hT.below b0)).mono ?_; rintro e w1 ⟨rfl, k1⟩
  have r1 := hT0.below k1
  have b1 := below_next b0 k1
  clear hT0 b0 k1
  have c0 := r1.c0
  go_wp2_with fail
  clear c0
  refine (great_any w1.heap.size 1 (fun _ => ⟨A, n, ca, R⟩) false _ (rels_one w1 (fun _ => ⟨A, n, ca, R⟩) (HH.out.below b1)) (by decide) (Or.inr ⟨rfl, fun _ _ => HG.out⟩)).mono ?_; rintro e w2 ⟨rfl, k2⟩
  have k2' := ((Below.refl w1.heap.size w1).alloc (Nat.le_refl _) (.cells #[.slice A n ca] 24)).trans (k2.mono (by simp))
  have r2 := r1.below k2'
  have b2 := below_next b1 k2'
  clear r1 b1 k2 k2'
  go_wp2_with fail
  go_ret
  exact ⟨rfl, b2⟩
set_option maxRecDepth 100000 in
set_option maxHeartbeats 16000000 in
theorem pa_ok_v (A : Option Addr) (n ca : Nat) (R : Nat → RowD) (N : Int) (B : Option Addr) (m cb : Nat) (z : Nat → Int × Int) (w : World) (hx : Rel w A n R) (hp : Prs w B m z) (hT : Tab w) (hg : ¬ Great n R) (hm : m ≤ 200) (hN : N ≤ 60 ∨ 512 < N) (hb : PIn N m z) (vx : VRel n R) :
    Calls Tryd.prog 3 #[.agg #[.slice A n ca], .int .i64 N, .slice B m cb] w fun e w' => e = .returned (.bool true) ∧ Below w.heap.size w w' := by
  obtain ⟨q, rfl⟩ : ∃ q : Nat, N = (q : Int) := ⟨N.toNat, by have := hb.1; omega⟩
  have HG := Lib.hid hg
  have hn520 : n ≤ 1000000 := by
    rcases Nat.lt_or_ge 520 n with h | h
    · exact absurd (Or.inr (Or.inl h)) hg
    · omega
  clear hg
  have HV := Lib.hid vx; clear vx
  have HB := Lib.hid hb; clear hb
  have d1 : decide (200 < (m : Int)) = false := decide_eq_false (by omega)
  have d2 : decide (60 < (q : Int)) = false := decide_eq_false (by have := HB.out.2.1; omega)
  clear hN
  have hT0 : RelAt (w.alloc (.cells #[.slice A n ca] 24)) w.heap.size A n ca := relAt_new w A n ca
  have b0 : Below w.heap.size w (w.alloc (.cells #[.slice A n ca] 24)) := (Below.refl _ _).alloc (Nat.le_refl _) _
  have HH := Lib.hid hx; clear hx
  have HP := Lib.hid hp; clear hp
  go_enter Tryd.func3, Tryd.ntmps3
  go_wp2_with fail
  refine (awake_any _ (hT.below b0)).mono ?_; rintro e w1 ⟨rfl, k1⟩
  have r1 := hT0.below k1
  have b1 := below_next b0 k1
  clear hT0 b0 k1
  have c0 := r1.c0
  go_wp2_with fail
  clear c0
  refine (great_any w1.heap.size 1 (fun _ => ⟨A, n, ca, R⟩) false _ (rels_one w1 (fun _ => ⟨A, n, ca, R⟩) (HH.out.below b1)) (by decide) (Or.inr ⟨rfl, fun _ _ => HG.out⟩)).mono ?_; rintro e w2 ⟨rfl, k2⟩
  have k2' := ((Below.refl w1.heap.size w1).alloc (Nat.le_refl _) (.cells #[.slice A n ca] 24)).trans (k2.mono (by simp))
  have r2 := r1.below k2'
  have b2 := below_next b1 k2'
  clear r1 b1 k2 k2'
  go_wp2_with fail
  refine (make_fine q B m cb z _ (by have := HB.out.2.1; omega) (HP.out.below b2) (by omega) HB.out.2.2).mono ?_; rintro e w3 ⟨A3, c3, R3, rfl, hR3, _, hV3, hM3, k3⟩
  have b3 := below_next b2 (k3.alloc k3.size (.cells #[.slice A3 q c3] 24))
  have r3 := (r2.below k3).alloc (.cells #[.slice A3 q c3] 24)
  have X3 := boxR_new w3 A3 c3 hR3 hV3 hM3
  clear r2 b2 k3
  go_wp2_with fail
  generalize w3.heap.size = p3 at *
  generalize w3.alloc (.cells #[.slice A3 q c3] 24) = W3 at *
  clear hR3 hV3 hM3
  refine (rmk_yes q B m cb z _ (HP.out.below b3) (by omega) HB.out).mono ?_; rintro e w4 ⟨A4, c4, R4, rfl, hR4, hV4, hM4, k4⟩
  have b4 := below_next b3 (k4.alloc k4.size (.cells #[.slice A4 q c4] 24))
  have r4 := (r3.below k4).alloc (.cells #[.slice A4 q c4] 24)
  have X4 := X3.nxt k4 (.cells #[.slice A4 q c4] 24)
  have Y4 := boxR_new w4 A4 c4 hR4 hV4 hM4
  clear hR4 hV4 hM4 X3
  clear r3 b3 k4
  go_wp2_with fail
  generalize w4.heap.size = p4 at *
  generalize w4.alloc (.cells #[.slice A4 q c4] 24) = W at *
  have x0 := X4.a.c0
  have y0 := Y4.a.c0
  have hx3 := X4.r
  have s0 := r4.c0
  have k0 := cell_regrown x0
  have k1 := cell_regrown y0
  have k2 := cell_regrown s0
  have QA := Lib.hid (fun d os => Calls.regrown_of (same_box (X4.next (below_regrown W d os)) (Y4.next (below_regrown W d os)) (fun _ _ _ _ => rfl)))
  have QB := Lib.hid (fun d os => Calls.regrown_of (rvalid_yes A n ca R (grow (redrawn W d) os) (HH.out.below (below_next b4 (below_regrown W d os))) HV.out))
  have QC := Lib.hid (fun d os => Calls.regrown_of (refValid_yes A n ca R (grow (redrawn W d) os) (HH.out.below (below_next b4 (below_regrown W d os))) HV.out))
  clear x0 y0 s0
  refine wp_region_quiet_below (by kernel_rfl) (by kernel_rfl) ?_
  repeat (first | go_big_quiet_step (first | with_reducible exact QB.out _ _ | with_reducible exact QC.out _ _ | with_reducible exact QA.out _ _) | quiet_step (first | with_reducible exact QB.out _ _ | with_reducible exact QC.out _ _ | with_reducible exact QA.out _ _))
  refine wpQuiet_nil ?_
  intro _ hw'
  obtain ⟨⟨dq, osq⟩, hw''⟩ := hw'
  subst hw''
  clear k0 k1 k2 QA QB QC X4 Y4
  have b5 := below_next b4 (below_regrown W dq osq)
  have r5 := r4.below (below_regrown W dq osq)
  clear b4 r4
  have c0 := r5.c0
  go_wp2_with fail
  clear c0
  refine (pairs_ok A n ca R _ (HH.out.below b5) HV.out (hT.below b5)).mono ?_; rintro e w6 ⟨vP, rfl, hownP, k6⟩
  obtain ⟨AP, cP, rfl, hPP⟩ := own_prs hownP
  have b6 := below_next b5 k6
  have r6 := r5.below k6
  have HPP := Lib.hid hPP
  clear b5 r5 hownP hPP k6
  have c0 := r6.c0
  go_wp2_with fail
  clear c0
  refine (refValid_yes A n ca R _ (HH.out.below b6) HV.out).mono ?_; rintro e w7 ⟨rfl, k7⟩
  have b7 := below_next b6 k7
  have r7 := r6.below k7
  have P7 := Lib.hid (HPP.out.below k7)
  clear b6 r6 HPP k7
  have c0 := r7.c0
  go_wp2_with fail
  clear c0
  refine (refPairs_any A n ca R _ (HH.out.below b7) HV.out).mono ?_; rintro e w8 ⟨vQ, rfl, hownQ, k8⟩
  obtain ⟨AQ, cQ, rfl, hQQ⟩ := own_prs hownQ
  have b8 := below_next b7 k8
  have P8 := Lib.hid (P7.out.below k8)
  have Q8 := Lib.hid hQQ
  have hle : (pairsL (mat R) n n).length ≤ 1000000 := by
    have h1 := HV.out.1
    have h2 := pairsL_len (mat R) n n
    have h3 : n * n ≤ 512 * 512 := Nat.mul_le_mul h1 h1
    omega
  clear b7 r7 P7 hownQ hQQ k8
  go_wp2_with fail
  refine (equal_prs AP AQ _ cP cQ _ _ P8.out Q8.out hle).mono ?_; rintro e w9 ⟨rfl, k9⟩
  go_wp2_with fail
  go_ret
  exact ⟨rfl, below_next b8 k9⟩
set_option maxRecDepth 100000 in
set_option maxHeartbeats 16000000 in
theorem pa_ok_n (A : Option Addr) (n ca : Nat) (R : Nat → RowD) (N : Int) (B : Option Addr) (m cb : Nat) (z : Nat → Int × Int) (w : World) (hx : Rel w A n R) (hp : Prs w B m z) (hT : Tab w) (hg : ¬ Great n R) (hm : m ≤ 200) (hN : N ≤ 60 ∨ 512 < N) (hb : PIn N m z) (vx : ¬ VRel n R) :
    Calls Tryd.prog 3 #[.agg #[.slice A n ca], .int .i64 N, .slice B m cb] w fun e w' => e = .returned (.bool true) ∧ Below w.heap.size w w' := by
  obtain ⟨q, rfl⟩ : ∃ q : Nat, N = (q : Int) := ⟨N.toNat, by have := hb.1; omega⟩
  have HG := Lib.hid hg
  have hn520 : n ≤ 1000000 := by
    rcases Nat.lt_or_ge 520 n with h | h
    · exact absurd (Or.inr (Or.inl h)) hg
    · omega
  clear hg
  have HV := Lib.hid vx; clear vx
  have HB := Lib.hid hb; clear hb
  have d1 : decide (200 < (m : Int)) = false := decide_eq_false (by omega)
  have d2 : decide (60 < (q : Int)) = false := decide_eq_false (by have := HB.out.2.1; omega)
  clear hN
  have hT0 : RelAt (w.alloc (.cells #[.slice A n ca] 24)) w.heap.size A n ca := relAt_new w A n ca
  have b0 : Below w.heap.size w (w.alloc (.cells #[.slice A n ca] 24)) := (Below.refl _ _).alloc (Nat.le_refl _) _
  have HH := Lib.hid hx; clear hx
  have HP := Lib.hid hp; clear hp
  go_enter Tryd.func3, Tryd.ntmps3
  go_wp2_with fail
  refine (awake_any _ (hT.below b0)).mono ?_; rintro e w1 ⟨rfl, k1⟩
  have r1 := hT0.below k1
  have b1 := below_next b0 k1
  clear hT0 b0 k1
  have c0 := r1.c0
  go_wp2_with fail
  clear c0
  refine (great_any w1.heap.size 1 (fun _ => ⟨A, n, ca, R⟩) false _ (rels_one w1 (fun _ => ⟨A, n, ca, R⟩) (HH.out.below b1)) (by decide) (Or.inr ⟨rfl, fun _ _ => HG.out⟩)).mono ?_; rintro e w2 ⟨rfl, k2⟩
  have k2' := ((Below.refl w1.heap.size w1).alloc (Nat.le_refl _) (.cells #[.slice A n ca] 24)).trans (k2.mono (by simp))
  have r2 := r1.below k2'
  have b2 := below_next b1 k2'
  clear r1 b1 k2 k2'
  go_wp2_with fail
  refine (make_fine q B m cb z _ (by have := HB.out.2.1; omega) (HP.out.below b2) (by omega) HB.out.2.2).mono ?_; rintro e w3 ⟨A3, c3, R3, rfl, hR3, _, hV3, hM3, k3⟩
  have b3 := below_next b2 (k3.alloc k3.size (.cells #[.slice A3 q c3] 24))
  have r3 := (r2.below k3).alloc (.cells #[.slice A3 q c3] 24)
  have X3 := boxR_new w3 A3 c3 hR3 hV3 hM3
  clear r2 b2 k3
  go_wp2_with fail
  generalize w3.heap.size = p3 at *
  generalize w3.alloc (.cells #[.slice A3 q c3] 24) = W3 at *
  clear hR3 hV3 hM3
  refine (rmk_yes q B m cb z _ (HP.out.below b3) (by omega) HB.out).mono ?_; rintro e w4 ⟨A4, c4, R4, rfl, hR4, hV4, hM4, k4⟩
  have b4 := below_next b3 (k4.alloc k4.size (.cells #[.slice A4 q c4] 24))
  have r4 := (r3.below k4).alloc (.cells #[.slice A4 q c4] 24)
  have X4 := X3.nxt k4 (.cells #[.slice A4 q c4] 24)
  have Y4 := boxR_new w4 A4 c4 hR4 hV4 hM4
  clear hR4 hV4 hM4 X3
  clear r3 b3 k4
  go_wp2_with fail
  generalize w4.heap.size = p4 at *
  generalize w4.alloc (.cells #[.slice A4 q c4] 24) = W at *
  have x0 := X4.a.c0
  have y0 := Y4.a.c0
  have hx3 := X4.r
  have s0 := r4.c0
  have k0 := cell_regrown x0
  have k1 := cell_regrown y0
  have k2 := cell_regrown s0
  have QA := Lib.hid (fun d os => Calls.regrown_of (same_box (X4.next (below_regrown W d os)) (Y4.next (below_regrown W d os)) (fun _ _ _ _ => rfl)))
  have QB := Lib.hid (fun d os => Calls.regrown_of (rvalid_no A n ca R (grow (redrawn W d) os) (HH.out.below (below_next b4 (below_regrown W d os))) hn520 HV.out))
  have QC := Lib.hid (fun d os => Calls.regrown_of (refValid_no A n ca R (grow (redrawn W d) os) (HH.out.below (below_next b4 (below_regrown W d os))) HV.out))
  clear x0 y0 s0
  refine wp_region_quiet_below (by kernel_rfl) (by kernel_rfl) ?_
  repeat (first | go_big_quiet_step (first | with_reducible exact QB.out _ _ | with_reducible exact QC.out _ _ | with_reducible exact QA.out _ _) | quiet_step (first | with_reducible exact QB.out _ _ | with_reducible exact QC.out _ _ | with_reducible exact QA.out _ _))
  refine wpQuiet_nil ?_
  intro _ hw'
  obtain ⟨⟨dq, osq⟩, hw''⟩ := hw'
  subst hw''
  clear k0 k1 k2 QA QB QC X4 Y4
  have b5 := below_next b4 (below_regrown W dq osq)
  have r5 := r4.below (below_regrown W dq osq)
  clear b4 r4
  have c0 := r5.c0
  go_wp2_with fail
  clear c0
  refine (pairs_err A n ca R _ (HH.out.below b5) hn520 HV.out).mono ?_; rintro e w6 ⟨rfl, k6⟩
  have b6 := below_next b5 k6
  have r6 := r5.below k6
  clear b5 r5 k6
  have c0 := r6.c0
  go_wp2_with fail
  clear c0
  refine (refValid_no A n ca R _ (HH.out.below b6) HV.out).mono ?_; rintro e w7 ⟨rfl, k7⟩
  have b7 := below_next b6 k7
  go_wp2_with fail
  go_ret
  exact ⟨rfl, b7⟩
set_option maxRecDepth 100000 in
set_option maxHeartbeats 16000000 in
theorem pa_badlo_v (A : Option Addr) (n ca : Nat) (R : Nat → RowD) (N : Int) (B : Option Addr) (m cb : Nat) (z : Nat → Int × Int) (w : World) (hx : Rel w A n R) (hp : Prs w B m z) (hT : Tab w) (hg : ¬ Great n R) (hm : m ≤ 200) (hN : N ≤ 60) (hb : ¬ PIn N m z) (vx : VRel n R) :
    Calls Tryd.prog 3 #[.agg #[.slice A n ca], .int .i64 N, .slice B m cb] w fun e w' => e = .returned (.bool true) ∧ Below w.heap.size w w' := by
  have HG := Lib.hid hg
  have hn520 : n ≤ 1000000 := by
    rcases Nat.lt_or_ge 520 n with h | h
    · exact absurd (Or.inr (Or.inl h)) hg
    · omega
  clear hg
  have HV := Lib.hid vx; clear vx
  have HB := Lib.hid hb; clear hb
  have d1 : decide (200 < (m : Int)) = false := decide_eq_false (by omega)
  have d2 : decide (60 < N) = false := decide_eq_false (by omega)
  have hT0 : RelAt (w.alloc (.cells #[.slice A n ca] 24)) w.heap.size A n ca := relAt_new w A n ca
  have b0 : Below w.heap.size w (w.alloc (.cells #[.slice A n ca] 24)) := (Below.refl _ _).alloc (Nat.le_refl _) _
  have HH := Lib.hid hx; clear hx
  have HP := Lib.hid hp; clear hp
  go_enter Tryd.func3, Tryd.ntmps3
  go_wp2_with fail
  refine (awake_any _ (hT.below b0)).mono ?_; rintro e w1 ⟨rfl, k1⟩
  have r1 := hT0.below k1
  have b1 := below_next b0 k1
  clear hT0 b0 k1
  have c0 := r1.c0
  go_wp2_with fail
  clear c0
  refine (great_any w1.heap.size 1 (fun _ => ⟨A, n, ca, R⟩) false _ (rels_one w1 (fun _ => ⟨A, n, ca, R⟩) (HH.out.below b1)) (by decide) (Or.inr ⟨rfl, fun _ _ => HG.out⟩)).mono ?_; rintro e w2 ⟨rfl, k2⟩
  have k2' := ((Below.refl w1.heap.size w1).alloc (Nat.le_refl _) (.cells #[.slice A n ca] 24)).trans (k2.mono (by simp))
  have r2 := r1.below k2'
  have b2 := below_next b1 k2'
  clear r1 b1 k2 k2'
  go_wp2_with fail
  refine (mk_no N B m cb z _ (HP.out.below b2) (by omega) HB.out).mono ?_; rintro e w3 ⟨rfl, k3⟩
  have b3 := below_next b2 (k3.alloc k3.size (.cells #[.slice none 0 0] 24))
  have r3 := (r2.below k3).alloc (.cells #[.slice none 0 0] 24)
  have X3 := relAt_new w3 none 0 0
  clear r2 b2 k3
  go_wp2_with fail
  generalize w3.heap.size = p3 at *
  generalize w3.alloc (.cells #[.slice none 0 0] 24) = W3 at *
  refine (rmk_no N B m cb z _ (HP.out.below b3) (by omega) HB.out).mono ?_; rintro e w4 ⟨rfl, k4⟩
  have b4 := below_next b3 (k4.alloc k4.size (.cells #[.slice none 0 0] 24))
  have r4 := (r3.below k4).alloc (.cells #[.slice none 0 0] 24)
  have X4 := (X3.below k4).alloc (.cells #[.slice none 0 0] 24)
  have Y4 := relAt_new w4 none 0 0
  clear X3
  clear r3 b3 k4
  go_wp2_with fail
  generalize w4.heap.size = p4 at *
  generalize w4.alloc (.cells #[.slice none 0 0] 24) = W at *
  have x0 := X4.c0
  have y0 := Y4.c0
  have s0 := r4.c0
  have k0 := cell_regrown x0
  have k1 := cell_regrown y0
  have k2 := cell_regrown s0
  have QA := Lib.hid True.intro
  have QB := Lib.hid (fun d os => Calls.regrown_of (rvalid_yes A n ca R (grow (redrawn W d) os) (HH.out.below (below_next b4 (below_regrown W d os))) HV.out))
  have QC := Lib.hid (fun d os => Calls.regrown_of (refValid_yes A n ca R (grow (redrawn W d) os) (HH.out.below (below_next b4 (below_regrown W d os))) HV.out))
  clear x0 y0 s0
  refine wp_region_quiet_below (by kernel_rfl) (by kernel_rfl) ?_
  repeat (first | go_big_quiet_step (first | with_reducible exact QB.out _ _ | with_reducible exact QC.out _ _) | quiet_step (first | with_reducible exact QB.out _ _ | with_reducible exact QC.out _ _))
  refine wpQuiet_nil ?_
  intro _ hw'
  obtain ⟨⟨dq, osq⟩, hw''⟩ := hw'
  subst hw''
  clear k0 k1 k2 QA QB QC X4 Y4
  have b5 := below_next b4 (below_regrown W dq osq)
  have r5 := r4.below (below_regrown W dq osq)
  clear b4 r4
  have c0 := r5.c0
  go_wp2_with fail
  clear c0
  refine (pairs_ok A n ca R _ (HH.out.below b5) HV.out (hT.below b5)).mono ?_; rintro e w6 ⟨vP, rfl, hownP, k6⟩
  obtain ⟨AP, cP, rfl, hPP⟩ := own_prs hownP
  have b6 := below_next b5 k6
  have r6 := r5.below k6
  have HPP := Lib.hid hPP
  clear b5 r5 hownP hPP k6
  have c0 := r6.c0
  go_wp2_with fail
  clear c0
  refine (refValid_yes A n ca R _ (HH.out.below b6) HV.out).mono ?_; rintro e w7 ⟨rfl, k7⟩
  have b7 := below_next b6 k7
  have r7 := r6.below k7
  have P7 := Lib.hid (HPP.out.below k7)
  clear b6 r6 HPP k7
  have c0 := r7.c0
  go_wp2_with fail
  clear c0
  refine (refPairs_any A n ca R _ (HH.out.below b7) HV.out).mono ?_; rintro e w8 ⟨vQ, rfl, hownQ, k8⟩
  obtain ⟨AQ, cQ, rfl, hQQ⟩ := own_prs hownQ
  have b8 := below_next b7 k8
  have P8 := Lib.hid (P7.out.below k8)
  have Q8 := Lib.hid hQQ
  have hle : (pairsL (mat R) n n).length ≤ 1000000 := by
    have h1 := HV.out.1
    have h2 := pairsL_len (mat R) n n
    have h3 : n * n ≤ 512 * 512 := Nat.mul_le_mul h1 h1
    omega
  clear b7 r7 P7 hownQ hQQ k8
  go_wp2_with fail
  refine (equal_prs AP AQ _ cP cQ _ _ P8.out Q8.out hle).mono ?_; rintro e w9 ⟨rfl, k9⟩
  go_wp2_with fail
  go_ret
  exact ⟨rfl, below_next b8 k9⟩
set_option maxRecDepth 100000 in
set_option maxHeartbeats 16000000 in
theorem pa_badhi_v (A : Option Addr) (n ca : Nat) (R : Nat → RowD) (N : Int) (B : Option Addr) (m cb : Nat) (z : Nat → Int × Int) (w : World) (hx : Rel w A n R) (hp : Prs w B m z) (hT : Tab w) (hg : ¬ Great n R) (hm : m ≤ 200) (hN : 512 < N) (hb : ¬ PIn N m z) (vx : VRel n R) :
    Calls Tryd.prog 3 #[.agg #[.slice A n ca], .int .i64 N, .slice B m cb] w fun e w' => e = .returned (.bool true) ∧ Below w.heap.size w w' := by
  have HG := Lib.hid hg
  have hn520 : n ≤ 1000000 := by
    rcases Nat.lt_or_ge 520 n with h | h
    · exact absurd (Or.inr (Or.inl h)) hg
    · omega
  clear hg
  have HV := Lib.hid vx; clear vx
  have HB := Lib.hid hb; clear hb
  have d1 : decide (200 < (m : Int)) = false := decide_eq_false (by omega)
  have d2 : decide (60 < N) = true := decide_eq_true (by omega)
  have d3 : decide (N ≤ 512) = false := decide_eq_false (by omega)
  have hT0 : RelAt (w.alloc (.cells #[.slice A n ca] 24)) w.heap.size A n ca := relAt_new w A n ca
  have b0 : Below w.heap.size w (w.alloc (.cells #[.slice A n ca] 24)) := (Below.refl _ _).alloc (Nat.le_refl _) _
  have HH := Lib.hid hx; clear hx
  have HP := Lib.hid hp; clear hp
  go_enter Tryd.func3, Tryd.ntmps3
  go_wp2_with fail
  refine (awake_any _ (hT.below b0)).mono ?_; rintro e w1 ⟨rfl, k1⟩
  have r1 := hT0.below k1
  have b1 := below_next b0 k1
  clear hT0 b0 k1
  have c0 := r1.c0
  go_wp2_with fail
  clear c0
  refine (great_any w1.heap.size 1 (fun _ => ⟨A, n, ca, R⟩) false _ (rels_one w1 (fun _ => ⟨A, n, ca, R⟩) (HH.out.below b1)) (by decide) (Or.inr ⟨rfl, fun _ _ => HG.out⟩)).mono ?_; rintro e w2 ⟨rfl, k2⟩
  have k2' := ((Below.refl w1.heap.size w1).alloc (Nat.le_refl _) (.cells #[.slice A n ca] 24)).trans (k2.mono (by simp))
  have r2 := r1.below k2'
  have b2 := below_next b1 k2'
  clear r1 b1 k2 k2'
  go_wp2_with fail
  refine (mk_no N B m cb z _ (HP.out.below b2) (by omega) HB.out).mono ?_; rintro e w3 ⟨rfl, k3⟩
  have b3 := below_next b2 (k3.alloc k3.size (.cells #[.slice none 0 0] 24))
  have r3 := (r2.below k3).alloc (.cells #[.slice none 0 0] 24)
  have X3 := relAt_new w3 none 0 0
  clear r2 b2 k3
  go_wp2_with fail
  generalize w3.heap.size = p3 at *
  generalize w3.alloc (.cells #[.slice none 0 0] 24) = W3 at *
  refine (rmk_no N B m cb z _ (HP.out.below b3) (by omega) HB.out).mono ?_; rintro e w4 ⟨rfl, k4⟩
  have b4 := below_next b3 (k4.alloc k4.size (.cells #[.slice none 0 0] 24))
  have r4 := (r3.below k4).alloc (.cells #[.slice none 0 0] 24)
  have X4 := (X3.below k4).alloc (.cells #[.slice none 0 0] 24)
  have Y4 := relAt_new w4 none 0 0
  clear X3
  clear r3 b3 k4
  go_wp2_with fail
  generalize w4.heap.size = p4 at *
  generalize w4.alloc (.cells #[.slice none 0 0] 24) = W at *
  have x0 := X4.c0
  have y0 := Y4.c0
  have s0 := r4.c0
  have k0 := cell_regrown x0
  have k1 := cell_regrown y0
  have k2 := cell_regrown s0
  have QA := Lib.hid True.intro
  have QB := Lib.hid (fun d os => Calls.regrown_of (rvalid_yes A n ca R (grow (redrawn W d) os) (HH.out.below (below_next b4 (below_regrown W d os))) HV.out))
  have QC := Lib.hid (fun d os => Calls.regrown_of (refValid_yes A n ca R (grow (redrawn W d) os) (HH.out.below (below_next b4 (below_regrown W d os))) HV.out))
  clear x0 y0 s0
  refine wp_region_quiet_below (by kernel_rfl) (by kernel_rfl) ?_
  repeat (first | go_big_quiet_step (first | with_reducible exact QB.out _ _ | with_reducible exact QC.out _ _) | quiet_step (first | with_reducible exact QB.out _ _ | with_reducible exact QC.out _ _))
  refine wpQuiet_nil ?_
  intro _ hw'
  obtain ⟨⟨dq, osq⟩, hw''⟩ := hw'
  subst hw''
  clear k0 k1 k2 QA QB QC X4 Y4
  have b5 := below_next b4 (below_regrown W dq osq)
  have r5 := r4.below (below_regrown W dq osq)
  clear b4 r4
  have c0 := r5.c0
  go_wp2_with fail
  clear c0
  refine (pairs_ok A n ca R _ (HH.out.below b5) HV.out (hT.below b5)).mono ?_; rintro e w6 ⟨vP, rfl, hownP, k6⟩
  obtain ⟨AP, cP, rfl, hPP⟩ := own_prs hownP
  have b6 := below_next b5 k6
  have r6 := r5.below k6
  have HPP := Lib.hid hPP
  clear b5 r5 hownP hPP k6
  have c0 := r6.c0
  go_wp2_with fail
  clear c0
  refine (refValid_yes A n ca R _ (HH.out.below b6) HV.out).mono ?_; rintro e w7 ⟨rfl, k7⟩
  have b7 := below_next b6 k7
  have r7 := r6.below k7
  have P7 := Lib.hid (HPP.out.below k7)
  clear b6 r6 HPP k7
  have c0 := r7.c0
  go_wp2_with fail
  clear c0
  refine (refPairs_any A n ca R _ (HH.out.below b7) HV.out).mono ?_; rintro e w8 ⟨vQ, rfl, hownQ, k8⟩
  obtain ⟨AQ, cQ, rfl, hQQ⟩ := own_prs hownQ
  have b8 := below_next b7 k8
  have P8 := Lib.hid (P7.out.below k8)
  have Q8 := Lib.hid hQQ
  have hle : (pairsL (mat R) n n).length ≤ 1000000 := by
    have h1 := HV.out.1
    have h2 := pairsL_len (mat R) n n
    have h3 : n * n ≤ 512 * 512 := Nat.mul_le_mul h1 h1
    omega
  clear b7 r7 P7 hownQ hQQ k8
  go_wp2_with fail
  refine (equal_prs AP AQ _ cP cQ _ _ P8.out Q8.out hle).mono ?_; rintro e w9 ⟨rfl, k9⟩
  go_wp2_with fail
  go_ret
  exact ⟨rfl, below_next b8 k9⟩
set_option maxRecDepth 100000 in
set_option maxHeartbeats 16000000 in
theorem pa_badlo_n (A : Option Addr) (n ca : Nat) (R : Nat → RowD) (N : Int) (B : Option Addr) (m cb : Nat) (z : Nat → Int × Int) (w : World) (hx : Rel w A n R) (hp : Prs w B m z) (hT : Tab w) (hg : ¬ Great n R) (hm : m ≤ 200) (hN : N ≤ 60) (hb : ¬ PIn N m z) (vx : ¬ VRel n R) :
    Calls Tryd.prog 3 #[.agg #[.slice A n ca], .int .i64 N, .slice B m cb] w fun e w' => e = .returned (.bool true) ∧ Below w.heap.size w w' := by
  have HG := Lib.hid hg
  have hn520 : n ≤ 1000000 := by
    rcases Nat.lt_or_ge 520 n with h | h
    · exact absurd (Or.inr (Or.inl h)) hg
    · omega
  clear hg
  have HV := Lib.hid vx; clear vx
  have HB := Lib.hid hb; clear hb
  have d1 : decide (200 < (m : Int)) = false := decide_eq_false (by omega)
  have d2 : decide (60 < N) = false := decide_eq_false (by omega)
  have hT0 : RelAt (w.alloc (.cells #[.slice A n ca] 24)) w.heap.size A n ca := relAt_new w A n ca
  have b0 : Below w.heap.size w (w.alloc (.cells #[.slice A n ca] 24)) := (Below.refl _ _).alloc (Nat.le_refl _) _
  have HH := Lib.hid hx; clear hx
  have HP := Lib.hid hp; clear hp
  go_enter Tryd.func3, Tryd.ntmps3
  go_wp2_with fail
  refine (awake_any _ (hT.below b0)).mono ?_; rintro e w1 ⟨rfl, k1⟩
  have r1 := hT0.below k1
  have b1 := below_next b0 k1
  clear hT0 b0 k1
  have c0 := r1.c0
  go_wp2_with fail
  clear c0
  refine (great_any w1.heap.size 1 (fun _ => ⟨A, n, ca, R⟩) false _ (rels_one w1 (fun _ => ⟨A, n, ca, R⟩) (HH.out.below b1)) (by decide) (Or.inr ⟨rfl, fun _ _ => HG.out⟩)).mono ?_; rintro e w2 ⟨rfl, k2⟩
  have k2' := ((Below.refl w1.heap.size w1).alloc (Nat.le_refl _) (.cells #[.slice A n ca] 24)).trans (k2.mono (by simp))
  have r2 := r1.below k2'
  have b2 := below_next b1 k2'
  clear r1 b1 k2 k2'
  go_wp2_with fail
  refine (mk_no N B m cb z _ (HP.out.below b2) (by omega) HB.out).mono ?_; rintro e w3 ⟨rfl, k3⟩
  have b3 := below_next b2 (k3.alloc k3.size (.cells #[.slice none 0 0] 24))
  have r3 := (r2.below k3).alloc (.cells #[.slice none 0 0] 24)
  have X3 := relAt_new w3 none 0 0
  clear r2 b2 k3
  go_wp2_with fail
  generalize w3.heap.size = p3 at *
  generalize w3.alloc (.cells #[.slice none 0 0] 24) = W3 at *
  refine (rmk_no N B m cb z _ (HP.out.below b3) (by omega) HB.out).mono ?_; rintro e w4 ⟨rfl, k4⟩
  have b4 := below_next b3 (k4.alloc k4.size (.cells #[.slice none 0 0] 24))
  have r4 := (r3.below k4).alloc (.cells #[.slice none 0 0] 24)
  have X4 := (X3.below k4).alloc (.cells #[.slice none 0 0] 24)
  have Y4 := relAt_new w4 none 0 0
  clear X3
  clear r3 b3 k4
  go_wp2_with fail
  generalize w4.heap.size = p4 at *
  generalize w4.alloc (.cells #[.slice none 0 0] 24) = W at *
  have x0 := X4.c0
  have y0 := Y4.c0
  have s0 := r4.c0
  have k0 := cell_regrown x0
  have k1 := cell_regrown y0
  have k2 := cell_regrown s0
  have QA := Lib.hid True.intro
  have QB := Lib.hid (fun d os => Calls.regrown_of (rvalid_no A n ca R (grow (redrawn W d) os) (HH.out.below (below_next b4 (below_regrown W d os))) hn520 HV.out))
  have QC := Lib.hid (fun d os => Calls.regrown_of (refValid_no A n ca R (grow (redrawn W d) os) (HH.out.below (below_next b4 (below_regrown W d os))) HV.out))
  clear x0 y0 s0
  refine wp_region_quiet_below (by kernel_rfl) (by kernel_rfl) ?_
  repeat (first | go_big_quiet_step (first | with_reducible exact QB.out _ _ | with_reducible exact QC.out _ _) | quiet_step (first | with_reducible exact QB.out _ _ | with_reducible exact QC.out _ _))
  refine wpQuiet_nil ?_
  intro _ hw'
  obtain ⟨⟨dq, osq⟩, hw''⟩ := hw'
  subst hw''
  clear k0 k1 k2 QA QB QC X4 Y4
  have b5 := below_next b4 (below_regrown W dq osq)
  have r5 := r4.below (below_regrown W dq osq)
  clear b4 r4
  have c0 := r5.c0
  go_wp2_with fail
  clear c0
  refine (pairs_err A n ca R _ (HH.out.below b5) hn520 HV.out).mono ?_; rintro e w6 ⟨rfl, k6⟩
  have b6 := below_next b5 k6
  have r6 := r5.below k6
  clear b5 r5 k6
  have c0 := r6.c0
  go_wp2_with fail
  clear c0
  refine (refValid_no A n ca R _ (HH.out.below b6) HV.out).mono ?_; rintro e w7 ⟨rfl, k7⟩
  have b7 := below_next b6 k7
  go_wp2_with fail
  go_ret
  exact ⟨rfl, b7⟩
set_option maxRecDepth 100000 in
set_option maxHeartbeats 16000000 in
theorem pa_badhi_n (A : Option Addr) (n ca : Nat) (R : Nat → RowD) (N : Int) (B : Option Addr) (m cb : Nat) (z : Nat → Int × Int) (w : World) (hx : Rel w A n R) (hp : Prs w B m z) (hT : Tab w) (hg : ¬ Great n R) (hm : m ≤ 200) (hN : 512 < N) (hb : ¬ PIn N m z) (vx : ¬ VRel n R) :
    Calls Tryd.prog 3 #[.agg #[.slice A n ca], .int .i64 N, .slice B m cb] w fun e w' => e = .returned (.bool true) ∧ Below w.heap.size w w' := by
  have HG := Lib.hid hg
  have hn520 : n ≤ 1000000 := by
    rcases Nat.lt_or_ge 520 n with h | h
    · exact absurd (Or.inr (Or.inl h)) hg
    · omega
  clear hg
  have HV := Lib.hid vx; clear vx
  have HB := Lib.hid hb; clear hb
  have d1 : decide (200 < (m : Int)) = false := decide_eq_false (by omega)
  have d2 : decide (60 < N) = true := decide_eq_true (by omega)
  have d3 : decide (N ≤ 512) = false := decide_eq_false (by omega)
  have hT0 : RelAt (w.alloc (.cells #[.slice A n ca] 24)) w.heap.size A n ca := relAt_new w A n ca
  have b0 : Below w.heap.size w (w.alloc (.cells #[.slice A n ca] 24)) := (Below.refl _ _).alloc (Nat.le_refl _) _
  have HH := Lib.hid hx; clear hx
  have HP := Lib.hid hp; clear hp
  go_enter Tryd.func3, Tryd.ntmps3
  go_wp2_with fail
  refine (awake_any _ (hT.below b0)).mono ?_; rintro e w1 ⟨rfl, k1⟩
  have r1 := hT0.below k1
  have b1 := below_next b0 k1
  clear hT0 b0 k1
  have c0 := r1.c0
  go_wp2_with fail
  clear c0
  refine (great_any w1.heap.size 1 (fun _ => ⟨A, n, ca, R⟩) false _ (rels_one w1 (fun _ => ⟨A, n, ca, R⟩) (HH.out.below b1)) (by decide) (Or.inr ⟨rfl, fun _ _ => HG.out⟩)).mono ?_; rintro e w2 ⟨rfl, k2⟩
  have k2' := ((Below.refl w1.heap.size w1).alloc (Nat.le_refl _) (.cells #[.slice A n ca] 24)).trans (k2.mono (by simp))
  have r2 := r1.below k2'
  have b2 := below_next b1 k2'
  clear r1 b1 k2 k2'
  go_wp2_with fail
  refine (mk_no N B m cb z _ (HP.out.below b2) (by omega) HB.out).mono ?_; rintro e w3 ⟨rfl, k3⟩
  have b3 := below_next b2 (k3.alloc k3.size (.cells #[.slice none 0 0] 24))
  have r3 := (r2.below k3).alloc (.cells #[.slice none 0 0] 24)
  have X3 := relAt_new w3 none 0 0
  clear r2 b2 k3
  go_wp2_with fail
  generalize w3.heap.size = p3 at *
  generalize w3.alloc (.cells #[.slice none 0 0] 24) = W3 at *
  refine (rmk_no N B m cb z _ (HP.out.below b3) (by omega) HB.out).mono ?_; rintro e w4 ⟨rfl, k4⟩
  have b4 := below_next b3 (k4.alloc k4.size (.cells #[.slice none 0 0] 24))
  have r4 := (r3.below k4).alloc (.cells #[.slice none 0 0] 24)
  have X4 := (X3.below k4).alloc (.cells #[.slice none 0 0] 24)
  have Y4 := relAt_new w4 none 0 0
  clear X3
  clear r3 b3 k4
  go_wp2_with fail
  generalize w4.heap.size = p4 at *
  generalize w4.alloc (.cells #[.slice none 0 0] 24) = W at *
  have x0 := X4.c0
  have y0 := Y4.c0
  have s0 := r4.c0
  have k0 := cell_regrown x0
  have k1 := cell_regrown y0
  have k2 := cell_regrown s0
  have QA := Lib.hid True.intro
  have QB := Lib.hid (fun d os => Calls.regrown_of (rvalid_no A n ca R (grow (redrawn W d) os) (HH.out.below (below_next b4 (below_regrown W d os))) hn520 HV.out))
  have QC := Lib.hid (fun d os => Calls.regrown_of (refValid_no A n ca R (grow (redrawn W d) os) (HH.out.below (below_next b4 (below_regrown W d os))) HV.out))
  clear x0 y0 s0
  refine wp_region_quiet_below (by kernel_rfl) (by kernel_rfl) ?_
  repeat (first | go_big_quiet_step (first | with_reducible exact QB.out _ _ | with_reducible exact QC.out _ _) | quiet_step (first | with_reducible exact QB.out _ _ | with_reducible exact QC.out _ _))
  refine wpQuiet_nil ?_
  intro _ hw'
  obtain ⟨⟨dq, osq⟩, hw''⟩ := hw'
  subst hw''
  clear k0 k1 k2 QA QB QC X4 Y4
  have b5 := below_next b4 (below_regrown W dq osq)
  have r5 := r4.below (below_regrown W dq osq)
  clear b4 r4
  have c0 := r5.c0
  go_wp2_with fail
  clear c0
  refine (pairs_err A n ca R _ (HH.out.below b5) hn520 HV.out).mono ?_; rintro e w6 ⟨rfl, k6⟩
  have b6 := below_next b5 k6
  have r6 := r5.below k6
  clear b5 r5 k6
  have c0 := r6.c0
  go_wp2_with fail
  clear c0
  refine (refValid_no A n ca R _ (HH.out.below b6) HV.out).mono ?_; rintro e w7 ⟨rfl, k7⟩
  have b7 := below_next b6 k7
  go_wp2_with fail
  go_ret
  exact ⟨rfl, b7⟩
theorem pa_law (x : RelD) (N : Int) (B : Option Addr) (m cb : Nat) (z : Nat → Int × Int) (w : World) (hx : Rel w x.A x.n x.R) (hp : Prs w B m z) (hT : Tab w) :
    Calls Tryd.prog 3 #[.agg #[.slice x.A x.n x.c], .int .i64 N, .slice B m cb] w fun e w' => e = .returned (.bool true) ∧ Below w.heap.size w w' := by
  obtain ⟨A, n, ca, R⟩ := x
  by_cases hg : Great n R
  · exact pa_big A n ca R N B m cb z w hx hp hT hg
  · by_cases hm : 200 < m
    · exact pa_long A n ca R N B m cb z w hx hp hT hg hm
    · by_cases h6 : 60 < N ∧ N ≤ 512
      · exact pa_mid A n ca R N B m cb z w hx hp hT hg (by omega) h6.1 h6.2
      · by_cases hb : PIn N m z
        · by_cases vx : VRel n R
          · exact pa_ok_v A n ca R N B m cb z w hx hp hT hg (by omega) (by omega) hb vx
          · exact pa_ok_n A n ca R N B m cb z w hx hp hT hg (by omega) (by omega) hb vx
        · by_cases vx : VRel n R
          · by_cases h5 : 512 < N
            · exact pa_badhi_v A n ca R N B m cb z w hx hp hT hg (by omega) h5 hb vx
            · exact pa_badlo_v A n ca R N B m cb z w hx hp hT hg (by omega) (by omega) hb vx
          · by_cases h5 : 512 < N
            · exact pa_badhi_n A n ca R N B m cb z w hx hp hT hg (by omega) h5 hb vx
            · exact pa_badlo_n A n ca R N B m cb z w hx hp hT hg (by omega) (by omega) hb vx
end Go.Proofs.YtfjikeejifhnbaaDoor
