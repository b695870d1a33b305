/- RelationOrders: the law's own text, walked: it returns true for every relation. -/
import Derived.Test.YtfjikeejifhnbaaDoorRTcy
namespace Go.Proofs.YtfjikeejifhnbaaDoor
open Go.RowKit
section
variable {w : World} {n c : Nat} {A : Option Addr} {R : Nat → RowD} {T : Nat → Nat → Bool}
theorem order_list (h : Rel w A n R) (hv : VRel n R) (hT : Tab w) {o : List Nat} (ho : orderOf n (mat R) = some o) :
    Calls Tryd.prog 30 #[.agg #[.slice A n c]] w fun e w' => ∃ AO cO, e = .returned (.tuple #[.slice AO n cO, .int .i64 0]) ∧ Ints w' AO n (gets o) ∧ Below w.heap.size w w' :=
  (order_yes h hv hT ho).mono fun e w' he => by
    obtain ⟨AO, cO, h1, h2, h3⟩ := he
    have hl := (order_topo ho).2
    rw [← hl] at h2
    obtain ⟨A', c', e1, e2, _⟩ := own_ints h2
    injection e1 with e1
    subst e1
    rw [hl] at e2
    exact ⟨AO, cO, h1, e2, h3⟩
theorem ref_order_list {v : Value} {B C : Nat → Nat} (h : BTab w 0 v n n B C T) (hn : n ≤ 512) {o : List Nat} (ho : orderOf n T = some o) :
    Calls Tryd.prog 34 #[v] w fun e w' => ∃ AO cO, e = .returned (.slice AO n cO) ∧ Ints w' AO n (gets o) ∧ Below w.heap.size w w' :=
  (refOrder_any v n B C T o w h hn ho).mono fun e w' he => by
    obtain ⟨v', h1, h2, h3⟩ := he
    obtain ⟨A', c', rfl, e2, _⟩ := own_ints h2
    rw [(order_topo ho).2] at e2 h1
    exact ⟨A', c', h1, e2, h3⟩
theorem cycle_list (h : Rel w A n R) (hv : VRel n R) (hT : Tab w) {s : Nat} (hs : firstCyc n (mat R) = some s) :
    Calls Tryd.prog 31 #[.agg #[.slice A n c]] w fun e w' => ∃ AO cO, e = .returned (.tuple #[.slice AO (cycleFrom (mat R) n s).length cO, .int .i64 0]) ∧ Ints w' AO (cycleFrom (mat R) n s).length (gets (cycleFrom (mat R) n s)) ∧ Below w.heap.size w w' :=
  (cycle_yes h hv hT hs).mono fun e w' he => by
    obtain ⟨AO, cO, h1, h2, h3⟩ := he
    obtain ⟨A', c', e1, e2, _⟩ := own_ints h2
    injection e1 with e1
    subst e1
    exact ⟨AO, cO, h1, e2, h3⟩
theorem ref_cycle_list {v : Value} {B C : Nat → Nat} (h : BTab w 0 v n n B C T) (hn : n ≤ 512) {s : Nat} (hs : firstCyc n T = some s) :
    Calls Tryd.prog 35 #[v] w fun e w' => ∃ AO cO, e = .returned (.slice AO (cycleFrom T n s).length cO) ∧ Ints w' AO (cycleFrom T n s).length (gets (cycleFrom T n s)) ∧ Below w.heap.size w w' :=
  (refCycle_any v n B C T s w h hn hs).mono fun e w' he => by
    obtain ⟨v', h1, h2, h3⟩ := he
    obtain ⟨A', c', rfl, e2, _⟩ := own_ints h2
    exact ⟨A', c', h1, e2, h3⟩
end
set_option maxRecDepth 100000 in
set_option maxHeartbeats 16000000 in
theorem or_big (A : Option Addr) (n ca : Nat) (R : Nat → RowD) (w : World) (hx : Rel w A n R) (hT : Tab w) (hg : Great n R) :
    Calls Tryd.prog 5 #[.agg #[.slice A n ca]] w fun e w' => e = .returned (.bool true) ∧ Below w.heap.size w w' := by
  have HG := Lib.hid hg; clear hg
  have hT0 : RelAt (w.alloc (.cells #[.slice A n ca] 24)) w.heap.size A n ca := relAt_new w A n ca
  have b0 : Below w.heap.size w (w.alloc (.cells #[.slice A n ca] 24)) := (Below.refl _ _).alloc (Nat.le_refl _) _
  have HH := Lib.hid hx; clear hx
  go_enter Tryd.func5, Tryd.ntmps5
  go_wp2_with fail
  refine (awake_any _ (hT.below b0)).mono ?_; rintro e w1 ⟨rfl, k1⟩
  have r1 := hT0.below k1
  have b1 := below_next b0 k1
  clear hT0 b0 k1
  have c0 := r1.c0
  go_wp2_with fail
  clear c0
  refine (great_any w1.heap.size 1 (fun _ => ⟨A, n, ca, R⟩) true _ (rels_one w1 (fun _ => ⟨A, n, ca, R⟩) (HH.out.below b1)) (by decide) (Or.inl ⟨rfl, 0, by decide, HG.out⟩)).mono ?_; rintro e w2 ⟨rfl, k2⟩
  have k2' := ((Below.refl w1.heap.size w1).alloc (Nat.le_refl _) (.cells #[.slice A n ca] 24)).trans (k2.mono (by simp))
  have r2 := r1.below k2'
  have b2 := below_next b1 k2'
  clear r1 b1 k2 k2'
  go_wp2_with fail
  go_ret
  exact ⟨rfl, b2⟩
set_option maxRecDepth 100000 in
set_option maxHeartbeats 16000000 in
theorem or_nv (A : Option Addr) (n ca : Nat) (R : Nat → RowD) (w : World) (hx : Rel w A n R) (hT : Tab w) (hg : ¬ Great n R) (vx : ¬ VRel n R) :
    Calls Tryd.prog 5 #[.agg #[.slice A n ca]] w fun e w' => e = .returned (.bool true) ∧ Below w.heap.size w w' := by
  have hn2 : n ≤ 1000000 := by
    rcases Nat.lt_or_ge 520 n with h | h
    · exact absurd (Or.inr (Or.inl h)) hg
    · omega
  have HG := Lib.hid hg; clear hg
  have VX := Lib.hid vx; clear vx
  have hT0 : RelAt (w.alloc (.cells #[.slice A n ca] 24)) w.heap.size A n ca := relAt_new w A n ca
  have b0 : Below w.heap.size w (w.alloc (.cells #[.slice A n ca] 24)) := (Below.refl _ _).alloc (Nat.le_refl _) _
  have HH := Lib.hid hx; clear hx
  go_enter Tryd.func5, Tryd.ntmps5
  go_wp2_with fail
  refine (awake_any _ (hT.below b0)).mono ?_; rintro e w1 ⟨rfl, k1⟩
  have r1 := hT0.below k1
  have b1 := below_next b0 k1
  clear hT0 b0 k1
  have c0 := r1.c0
  go_wp2_with fail
  clear c0
  refine (great_any w1.heap.size 1 (fun _ => ⟨A, n, ca, R⟩) false _ (rels_one w1 (fun _ => ⟨A, n, ca, R⟩) (HH.out.below b1)) (by decide) (Or.inr ⟨rfl, fun _ _ => HG.out⟩)).mono ?_; rintro e w2 ⟨rfl, k2⟩
  have k2' := ((Below.refl w1.heap.size w1).alloc (Nat.le_refl _) (.cells #[.slice A n ca] 24)).trans (k2.mono (by simp))
  have r2 := r1.below k2'
  have b2 := below_next b1 k2'
  clear r1 b1 k2 k2'
  have c0 := r2.c0
  go_wp2_with fail
  clear c0
  refine (order_err A n ca R _ (HH.out.below b2) hn2 VX.out).mono ?_; rintro e w3 ⟨rfl, k3⟩
  have r3 := r2.below k3
  have b3 := below_next b2 k3
  clear r2 b2 k3
  have c0 := r3.c0
  go_wp2_with fail
  clear c0
  refine (cycle_err A n ca R _ (HH.out.below b3) hn2 VX.out).mono ?_; rintro e w4 ⟨rfl, k4⟩
  have r4 := r3.below k4
  have b4 := below_next b3 k4
  clear r3 b3 k4
  have c0 := r4.c0
  go_wp2_with fail
  clear c0
  refine (acyclic_bad A n ca R _ (HH.out.below b4) hn2 VX.out).mono ?_; rintro e w5 ⟨rfl, k5⟩
  have r5 := r4.below k5
  have b5 := below_next b4 k5
  clear r4 b4 k5
  have c0 := r5.c0
  go_wp2_with fail
  clear c0
  refine (refValid_no A n ca R _ (HH.out.below b5) VX.out).mono ?_; rintro e w6 ⟨rfl, k6⟩
  have r6 := r5.below k6
  have b6 := below_next b5 k6
  clear r5 b5 k6
  go_wp2_with fail
  go_ret
  exact ⟨rfl, b6⟩
set_option maxRecDepth 100000 in
set_option maxHeartbeats 16000000 in
theorem or_acy (A : Option Addr) (n ca : Nat) (R : Nat → RowD) (w : World) (hx : Rel w A n R) (hT : Tab w) (hg : ¬ Great n R) (vx : VRel n R) (o : List Nat) (ho : orderOf n (mat R) = some o) :
    Calls Tryd.prog 5 #[.agg #[.slice A n ca]] w fun e w' => e = .returned (.bool true) ∧ Below w.heap.size w w' := by
  have hn := vx.1
  have HG := Lib.hid hg; clear hg
  have VX := Lib.hid vx; clear vx
  have HO := Lib.hid ho; clear ho
  have hT0 : RelAt (w.alloc (.cells #[.slice A n ca] 24)) w.heap.size A n ca := relAt_new w A n ca
  have b0 : Below w.heap.size w (w.alloc (.cells #[.slice A n ca] 24)) := (Below.refl _ _).alloc (Nat.le_refl _) _
  have HH := Lib.hid hx; clear hx
  go_enter Tryd.func5, Tryd.ntmps5
  go_wp2_with fail
  refine (awake_any _ (hT.below b0)).mono ?_; rintro e w1 ⟨rfl, k1⟩
  have r1 := hT0.below k1
  have b1 := below_next b0 k1
  clear hT0 b0 k1
  have c0 := r1.c0
  go_wp2_with fail
  clear c0
  refine (great_any w1.heap.size 1 (fun _ => ⟨A, n, ca, R⟩) false _ (rels_one w1 (fun _ => ⟨A, n, ca, R⟩) (HH.out.below b1)) (by decide) (Or.inr ⟨rfl, fun _ _ => HG.out⟩)).mono ?_; rintro e w2 ⟨rfl, k2⟩
  have k2' := ((Below.refl w1.heap.size w1).alloc (Nat.le_refl _) (.cells #[.slice A n ca] 24)).trans (k2.mono (by simp))
  have r2 := r1.below k2'
  have b2 := below_next b1 k2'
  clear r1 b1 k2 k2'
  have c0 := r2.c0
  go_wp2_with fail
  clear c0
  refine (order_list (HH.out.below b2) VX.out (hT.below b2) HO.out).mono ?_; rintro e w3 ⟨AO, cO, rfl, hI, k3⟩
  have r3 := r2.below k3
  have b3 := below_next b2 k3
  clear r2 b2 k3
  have c0 := r3.c0
  go_wp2_with fail
  clear c0
  refine (cycle_no (HH.out.below b3) VX.out (hT.below b3) (acy_first HO.out)).mono ?_; rintro e w4 ⟨rfl, k4⟩
  replace hI := hI.below k4
  have r4 := r3.below k4
  have b4 := below_next b3 k4
  clear r3 b3 k4
  have c0 := r4.c0
  go_wp2_with fail
  clear c0
  refine (acyclic_ok A n ca R _ (HH.out.below b4) VX.out (hT.below b4)).mono ?_; rintro e w5 ⟨rfl, k5⟩
  rw [show (orderOf n (mat R)).isSome = true by rw [HO.out]; rfl]
  replace hI := hI.below k5
  have r5 := r4.below k5
  have b5 := below_next b4 k5
  clear r4 b4 k5
  have c0 := r5.c0
  go_wp2_with fail
  clear c0
  refine (refValid_yes A n ca R _ (HH.out.below b5) VX.out).mono ?_; rintro e w6 ⟨rfl, k6⟩
  replace hI := hI.below k6
  have r6 := r5.below k6
  have b6 := below_next b5 k6
  clear r5 b5 k6
  have c0 := r6.c0
  go_wp2_with fail
  clear c0
  refine (table_any A n ca R _ (HH.out.below b6) VX.out).mono ?_; rintro e w7 ⟨vT, B, C, rfl, hBT, k7⟩
  replace hBT := hBT.mono (Nat.zero_le _)
  replace hI := hI.below k7
  have r7 := r6.below k7
  have b7 := below_next b6 k7
  clear r6 b6 k7
  go_wp2_with fail
  refine (refAcyclic_yes vT n B C (mat R) _ hBT hn (order_acy HO.out)).mono ?_; rintro e w8 ⟨rfl, k8⟩
  replace hI := hI.below k8
  replace hBT := hBT.below k8
  have r8 := r7.below k8
  have b8 := below_next b7 k8
  clear r7 b7 k8
  go_wp2_with fail
  refine (ref_order_list hBT hn HO.out).mono ?_; rintro e w9 ⟨A9, c9, rfl, hJ, k9⟩
  replace hI := hI.below k9
  have r9 := r8.below k9
  have b9 := below_next b8 k9
  clear r8 b8 k9
  go_wp2_with fail
  refine (equal_ints AO A9 n cO c9 (gets o) _ hI hJ (by omega)).mono ?_; rintro e w10 ⟨rfl, k10⟩
  have r10 := r9.below k10
  have b10 := below_next b9 k10
  clear r9 b9 k10
  go_wp2_with fail
  go_ret
  exact ⟨rfl, b10⟩
set_option maxRecDepth 100000 in
set_option maxHeartbeats 16000000 in
theorem or_cyc (A : Option Addr) (n ca : Nat) (R : Nat → RowD) (w : World) (hx : Rel w A n R) (hT : Tab w) (hg : ¬ Great n R) (vx : VRel n R) (ho : orderOf n (mat R) = none) :
    Calls Tryd.prog 5 #[.agg #[.slice A n ca]] w fun e w' => e = .returned (.bool true) ∧ Below w.heap.size w w' := by
  have hn := vx.1
  have HG := Lib.hid hg; clear hg
  have VX := Lib.hid vx; clear vx
  obtain ⟨s, hs⟩ := cyc_first ho
  have hlen := (cyc_of hs).len
  have hpos := (cyc_of hs).pos
  have HO := Lib.hid ho; clear ho
  have HS := Lib.hid hs; clear hs
  obtain ⟨cl, hcl⟩ : ∃ cl, cl = cycleFrom (mat R) n s := ⟨_, rfl⟩
  rw [← hcl] at hlen hpos
  have q0 : ((cl.length : Int) == 0) = false := beq_false_of_ne (by omega)
  have hc1 : Hid (∀ (u : World), Rel u A n R → Tab u → Calls Tryd.prog 31 #[.agg #[.slice A n ca]] u fun e w' => ∃ AO cO, e = .returned (.tuple #[.slice AO cl.length cO, .int .i64 0]) ∧ Ints w' AO cl.length (gets cl) ∧ Below u.heap.size u w') := fun u h1 h2 => by rw [hcl]; exact cycle_list h1 VX.out h2 HS.out
  have hc2 : Hid (∀ (u : World) v B C, BTab u 0 v n n B C (mat R) → Calls Tryd.prog 35 #[v] u fun e w' => ∃ AO cO, e = .returned (.slice AO cl.length cO) ∧ Ints w' AO cl.length (gets cl) ∧ Below u.heap.size u w') := fun u v B C h1 => by rw [hcl]; exact ref_cycle_list h1 hn HS.out
  clear hcl
  have hT0 : RelAt (w.alloc (.cells #[.slice A n ca] 24)) w.heap.size A n ca := relAt_new w A n ca
  have b0 : Below w.heap.size w (w.alloc (.cells #[.slice A n ca] 24)) := (Below.refl _ _).alloc (Nat.le_refl _) _
  have HH := Lib.hid hx; clear hx
  go_enter Tryd.func5, Tryd.ntmps5
  go_wp2_with fail
  refine (awake_any _ (hT.below b0)).mono ?_; rintro e w1 ⟨rfl, k1⟩
  have r1 := hT0.below k1
  have b1 := below_next b0 k1
  clear hT0 b0 k1
  have c0 := r1.c0
  go_wp2_with fail
  clear c0
  refine (great_any w1.heap.size 1 (fun _ => ⟨A, n, ca, R⟩) false _ (rels_one w1 (fun _ => ⟨A, n, ca, R⟩) (HH.out.below b1)) (by decide) (Or.inr ⟨rfl, fun _ _ => HG.out⟩)).mono ?_; rintro e w2 ⟨rfl, k2⟩
  have k2' := ((Below.refl w1.heap.size w1).alloc (Nat.le_refl _) (.cells #[.slice A n ca] 24)).trans (k2.mono (by simp))
  have r2 := r1.below k2'
  have b2 := below_next b1 k2'
  clear r1 b1 k2 k2'
  have c0 := r2.c0
  go_wp2_with fail
  clear c0
  refine (order_no (HH.out.below b2) VX.out (hT.below b2) HO.out).mono ?_; rintro e w3 ⟨rfl, k3⟩
  have r3 := r2.below k3
  have b3 := below_next b2 k3
  clear r2 b2 k3
  have c0 := r3.c0
  go_wp2_with fail
  clear c0
  refine (hc1.out _ (HH.out.below b3) (hT.below b3)).mono ?_; rintro e w4 ⟨AO, cO, rfl, hI, k4⟩
  have r4 := r3.below k4
  have b4 := below_next b3 k4
  clear r3 b3 k4
  have c0 := r4.c0
  go_wp2_with fail
  clear c0
  refine (acyclic_ok A n ca R _ (HH.out.below b4) VX.out (hT.below b4)).mono ?_; rintro e w5 ⟨rfl, k5⟩
  rw [show (orderOf n (mat R)).isSome = false by rw [HO.out]; rfl]
  replace hI := hI.below k5
  have r5 := r4.below k5
  have b5 := below_next b4 k5
  clear r4 b4 k5
  have c0 := r5.c0
  go_wp2_with fail
  clear c0
  refine (refValid_yes A n ca R _ (HH.out.below b5) VX.out).mono ?_; rintro e w6 ⟨rfl, k6⟩
  replace hI := hI.below k6
  have r6 := r5.below k6
  have b6 := below_next b5 k6
  clear r5 b5 k6
  have c0 := r6.c0
  go_wp2_with fail
  clear c0
  refine (table_any A n ca R _ (HH.out.below b6) VX.out).mono ?_; rintro e w7 ⟨vT, B, C, rfl, hBT, k7⟩
  replace hBT := hBT.mono (Nat.zero_le _)
  replace hI := hI.below k7
  have r7 := r6.below k7
  have b7 := below_next b6 k7
  clear r6 b6 k7
  go_wp2_with fail
  refine (refAcyclic_no vT n B C (mat R) _ hBT hn HS.out).mono ?_; rintro e w8 ⟨rfl, k8⟩
  replace hI := hI.below k8
  replace hBT := hBT.below k8
  have r8 := r7.below k8
  have b8 := below_next b7 k8
  clear r7 b7 k8
  go_wp2_with fail
  refine (hc2.out _ _ _ _ hBT).mono ?_; rintro e w9 ⟨A9, c9, rfl, hJ, k9⟩
  replace hI := hI.below k9
  have r9 := r8.below k9
  have b9 := below_next b8 k9
  clear r8 b8 k9
  go_wp2_with fail
  refine (equal_ints AO A9 cl.length cO c9 (gets cl) _ hI hJ (by omega)).mono ?_; rintro e w10 ⟨rfl, k10⟩
  have r10 := r9.below k10
  have b10 := below_next b9 k10
  clear r9 b9 k10
  go_wp2_with fail
  go_ret
  exact ⟨rfl, b10⟩
theorem or_law (x : RelD) (w : World) (hx : Rel w x.A x.n x.R) (hT : Tab w) :
    Calls Tryd.prog 5 #[.agg #[.slice x.A x.n x.c]] w fun e w' => e = .returned (.bool true) ∧ Below w.heap.size w w' := by
  obtain ⟨A, n, ca, R⟩ := x
  by_cases hg : Great n R
  · exact or_big A n ca R w hx hT hg
  · by_cases vx : VRel n R
    · cases ho : orderOf n (mat R)
      · exact or_cyc A n ca R w hx hT hg vx ho
      · exact or_acy A n ca R w hx hT hg vx _ ho
    · exact or_nv A n ca R w hx hT hg vx
end Go.Proofs.YtfjikeejifhnbaaDoor
