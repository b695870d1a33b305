/- RelationLeast walked: the other relation is not transitive. -/
import Derived.Test.YtfjikeejifhnbaaDoorLLea0
namespace Go.Proofs.YtfjikeejifhnbaaDoor
open Go.RowKit
set_option maxRecDepth 100000 in
set_option maxHeartbeats 16000000 in
theorem lea_ot_cyc (A B : Option Addr) (n ca cb : Nat) (R S : Nat → RowD) (w : World) (hx : Rel w A n R) (hy : Rel w B n S) (hT : Tab w) (hg : ∀ k, k < 2 → ¬ Great (pk2 ⟨A, n, ca, R⟩ ⟨B, n, cb, S⟩ k).n (pk2 ⟨A, n, ca, R⟩ ⟨B, n, cb, S⟩ k).R) (h24 : n ≤ 24) (vx : VRel n R) (vy : VRel n S) (hi : ∀ i, i < n → ∀ j, j < n → mat R i j = true → mat S i j = true) (ht : ¬ ∀ i, i < n → ∀ j, j < n → comp n (mat S) (mat S) i j = true → mat S i j = true) (ho : orderOf n (mat R) = none) :
    Calls Tryd.prog 6 #[.agg #[.slice A n ca], .agg #[.slice B n cb]] w fun e w' => e = .returned (.bool true) ∧ Below w.heap.size w w' := by
  have hd : decide (24 < (n : Int)) = false := decide_eq_false (by omega)
  have hq : ((n : Int) != (n : Int)) = false := by simp
  have hn : n ≤ 512 := vx.1
  clear h24
  have HG := Lib.hid hg; clear hg
  have VX := Lib.hid vx; clear vx
  have VY := Lib.hid vy; clear vy
  have HI := Lib.hid hi; clear hi
  have HT := Lib.hid ht; clear ht
  have HO := Lib.hid ho; clear ho
  have hT0 : PairB w _ ⟨A, n, ca, R⟩ ⟨B, n, cb, S⟩ := pairB_new w ⟨A, n, ca, R⟩ ⟨B, n, cb, S⟩ hx hy
  clear hx hy
  replace hT0 : PairB w ((w.alloc (.cells #[.slice A n ca] 24)).alloc (.cells #[.slice B n cb] 24)) ⟨A, n, ca, R⟩ ⟨B, n, cb, S⟩ := hT0
  go_enter Tryd.func6, Tryd.ntmps6
  go_wp2_with fail
  refine (awake_any _ (hT.below hT0.f)).mono ?_; rintro e w1 ⟨rfl, b1⟩
  have hT1 := hT0.next b1
  clear hT0 b1
  have c0 : w1.cell? ⟨w.heap.size, 0, none⟩ = some (.slice A n ca) := hT1.a.c0
  have c1 : w1.cell? ⟨w.heap.size + 1, 0, none⟩ = some (.slice B n cb) := hT1.b.c0
  go_wp2_with fail
  clear c0 c1
  refine (great_any w1.heap.size 2 (pk2 ⟨A, n, ca, R⟩ ⟨B, n, cb, S⟩) false _ (rels_two w1 (pk2 ⟨A, n, ca, R⟩ ⟨B, n, cb, S⟩) hT1.ra hT1.rb) (by decide) (Or.inr ⟨rfl, HG.out⟩)).mono ?_; rintro e w2 ⟨rfl, b2⟩
  have hT2 := hT1.next (((Below.refl _ _).alloc (Nat.le_refl _) _).trans (b2.mono (by simp)))
  clear hT1 b2
  have c0 : w2.cell? ⟨w.heap.size, 0, none⟩ = some (.slice A n ca) := hT2.a.c0
  go_wp2_with fail
  clear c0
  refine (refValid_yes A n ca R _ hT2.ra VX.out).mono ?_; rintro e w3 ⟨rfl, b3⟩
  have hT3 := hT2.next b3
  clear hT2 b3
  have Xr : BoxR w3 w.heap.size n A ca R (mat R) := ⟨hT3.a, hT3.ra, VX.out, fun _ _ _ _ => rfl⟩
  have Xo : Oth w3 (w.heap.size + 1) ⟨B, n, cb, S⟩ := ⟨hT3.b, hT3.rb⟩
  have hB := hT3.f
  clear hT3 HG VX
  have c0 := Xr.a.c0
  go_wp2_with fail
  clear c0
  refine (closure_box Xr).mono ?_; rintro e w4 ⟨A4, d4, R4, rfl, hr, _, hv, hm, hb⟩
  have Xc := boxR_new w4 A4 d4 hr hv hm
  replace Xr := Xr.nxt hb (.cells #[.slice A4 n d4] 24)
  replace Xo := Xo.nxt hb (.cells #[.slice A4 n d4] 24)
  replace hB := below_nxt hB hb (.cells #[.slice A4 n d4] 24)
  clear hr hv hm hb
  have c0 := Xc.a.c0
  go_wp2_with fail
  clear c0
  generalize w4.heap.size = p4 at *
  generalize w4.alloc (.cells #[.slice A4 n d4] 24) = W4 at *
  refine (closure_box Xc).mono ?_; rintro e w5 ⟨A5, d5, R5, rfl, hr, _, hv, hm, hb⟩
  have Xa := boxR_new w5 A5 d5 hr hv hm
  replace Xr := Xr.nxt hb (.cells #[.slice A5 n d5] 24)
  replace Xo := Xo.nxt hb (.cells #[.slice A5 n d5] 24)
  replace Xc := Xc.nxt hb (.cells #[.slice A5 n d5] 24)
  replace hB := below_nxt hB hb (.cells #[.slice A5 n d5] 24)
  clear hr hv hm hb
  have c0 := Xc.a.c0
  go_wp2_with fail
  clear c0
  generalize w5.heap.size = p5 at *
  generalize w5.alloc (.cells #[.slice A5 n d5] 24) = W5 at *
  refine (compose_box Xc Xc (hT.below hB)).mono ?_; rintro e w6 ⟨A6, d6, R6, rfl, hr, _, hv, hm, hb⟩
  have Xs := boxR_new w6 A6 d6 hr hv hm
  replace Xr := Xr.nxt hb (.cells #[.slice A6 n d6] 24)
  replace Xo := Xo.nxt hb (.cells #[.slice A6 n d6] 24)
  replace Xc := Xc.nxt hb (.cells #[.slice A6 n d6] 24)
  replace Xa := Xa.nxt hb (.cells #[.slice A6 n d6] 24)
  replace hB := below_nxt hB hb (.cells #[.slice A6 n d6] 24)
  clear hr hv hm hb
  have c0 := Xc.a.c0
  go_wp2_with fail
  clear c0
  generalize w6.heap.size = p6 at *
  generalize w6.alloc (.cells #[.slice A6 n d6] 24) = W6 at *
  refine (refValid_yes _ n _ _ _ Xc.r Xc.v).mono ?_; rintro e w7 ⟨rfl, hb⟩
  replace Xr := Xr.next hb
  replace Xo := Xo.next hb
  replace Xc := Xc.next hb
  replace Xa := Xa.next hb
  replace Xs := Xs.next hb
  replace hB := below_next hB hb
  clear hb
  have c0 := Xc.a.c0
  have c1 := Xr.a.c0
  have c2 := Xa.a.c0
  go_wp2_with fail
  clear c0 c1 c2
  refine (same_box Xa Xc (clo_idem n (mat R))).mono ?_; rintro e w8 ⟨rfl, hb⟩
  replace Xr := Xr.next hb
  replace Xo := Xo.next hb
  replace Xc := Xc.next hb
  replace Xa := Xa.next hb
  replace Xs := Xs.next hb
  replace hB := below_next hB hb
  clear hb Xa
  have c0 := Xr.a.c0
  have c1 := Xc.a.c0
  go_wp2_with fail
  clear c0 c1
  refine (inside_box Xr Xc (fun i _ j _ h => clo_base h)).mono ?_; rintro e w9 ⟨rfl, hb⟩
  replace Xr := Xr.next hb
  replace Xo := Xo.next hb
  replace Xc := Xc.next hb
  replace Xs := Xs.next hb
  replace hB := below_next hB hb
  clear hb
  have c0 := Xs.a.c0
  have c1 := Xc.a.c0
  go_wp2_with fail
  clear c0 c1
  refine (inside_box Xs Xc (clo_steps n (mat R))).mono ?_; rintro e w10 ⟨rfl, hb⟩
  replace Xr := Xr.next hb
  replace Xo := Xo.next hb
  replace Xc := Xc.next hb
  replace Xs := Xs.next hb
  replace hB := below_next hB hb
  clear hb Xs
  have c0 := Xo.a.c0
  go_wp2_with fail
  clear c0
  refine (refValid_yes B n cb S _ Xo.r VY.out).mono ?_; rintro e w11 ⟨rfl, hb⟩
  replace Xr := Xr.next hb
  replace Xo := Xo.next hb
  replace Xc := Xc.next hb
  replace hB := below_next hB hb
  clear hb
  have Xp : BoxR w11 (w.heap.size + 1) n B cb S (mat S) := ⟨Xo.a, Xo.r, VY.out, fun _ _ _ _ => rfl⟩
  clear Xo VY
  have c0 := Xp.a.c0
  have c1 := Xr.a.c0
  go_wp2_with fail
  clear c0 c1
  refine (inside_box Xr Xp HI.out).mono ?_; rintro e w12 ⟨rfl, hb⟩
  replace Xr := Xr.next hb
  replace Xc := Xc.next hb
  replace Xp := Xp.next hb
  replace hB := below_next hB hb
  clear hb
  have c0 := Xp.a.c0
  go_wp2_with fail
  clear c0
  refine (compose_box Xp Xp (hT.below hB)).mono ?_; rintro e w13 ⟨A13, d13, R13, rfl, hr, _, hv, hm, hb⟩
  have Xw := boxR_new w13 A13 d13 hr hv hm
  replace Xr := Xr.nxt hb (.cells #[.slice A13 n d13] 24)
  replace Xc := Xc.nxt hb (.cells #[.slice A13 n d13] 24)
  replace Xp := Xp.nxt hb (.cells #[.slice A13 n d13] 24)
  replace hB := below_nxt hB hb (.cells #[.slice A13 n d13] 24)
  clear hr hv hm hb
  have c0 := Xw.a.c0
  have c1 := Xp.a.c0
  go_wp2_with fail
  clear c0 c1
  generalize w13.heap.size = p13 at *
  generalize w13.alloc (.cells #[.slice A13 n d13] 24) = W13 at *
  refine (inside_box_no Xw Xp HT.out).mono ?_; rintro e w14 ⟨rfl, hb⟩
  replace Xr := Xr.next hb
  replace Xc := Xc.next hb
  replace Xp := Xp.next hb
  replace Xw := Xw.next hb
  replace hB := below_next hB hb
  clear hb Xw
  have c0 := Xr.a.c0
  go_wp2_with fail
  clear c0
  refine (reduction_cycle A n ca R _ Xr.r Xr.v (hT.below hB) HO.out).mono ?_; rintro e w15 ⟨rfl, hb⟩
  replace Xr := Xr.nxt hb (.cells #[.slice none 0 0] 24)
  replace Xc := Xc.nxt hb (.cells #[.slice none 0 0] 24)
  replace Xp := Xp.nxt hb (.cells #[.slice none 0 0] 24)
  replace hB := below_nxt hB hb (.cells #[.slice none 0 0] 24)
  clear hb
  have c0 := Xr.a.c0
  go_wp2_with fail
  clear c0
  generalize w15.heap.size = p15 at *
  generalize w15.alloc (.cells #[.slice none 0 0] 24) = W15 at *
  refine (acyclic_ok A n ca R _ Xr.r Xr.v (hT.below hB)).mono ?_; rintro e w16 ⟨rfl, hb⟩
  rw [show (orderOf n (mat R)).isSome = false by rw [HO.out]; rfl]
  go_wp2_with fail
  go_ret
  exact ⟨rfl, below_next hB hb⟩
set_option maxRecDepth 100000 in
set_option maxHeartbeats 16000000 in
theorem lea_ot_acy (A B : Option Addr) (n ca cb : Nat) (R S : Nat → RowD) (w : World) (hx : Rel w A n R) (hy : Rel w B n S) (hT : Tab w) (hg : ∀ k, k < 2 → ¬ Great (pk2 ⟨A, n, ca, R⟩ ⟨B, n, cb, S⟩ k).n (pk2 ⟨A, n, ca, R⟩ ⟨B, n, cb, S⟩ k).R) (h24 : n ≤ 24) (vx : VRel n R) (vy : VRel n S) (hi : ∀ i, i < n → ∀ j, j < n → mat R i j = true → mat S i j = true) (ht : ¬ ∀ i, i < n → ∀ j, j < n → comp n (mat S) (mat S) i j = true → mat S i j = true) (ho : (orderOf n (mat R)).isSome = true) :
    Calls Tryd.prog 6 #[.agg #[.slice A n ca], .agg #[.slice B n cb]] w fun e w' => e = .returned (.bool true) ∧ Below w.heap.size w w' := by
  have hd : decide (24 < (n : Int)) = false := decide_eq_false (by omega)
  have hq : ((n : Int) != (n : Int)) = false := by simp
  have hn : n ≤ 512 := vx.1
  have hnn : n * n ≤ 24 * 24 := Nat.mul_le_mul h24 h24
  clear h24
  have HG := Lib.hid hg; clear hg
  have VX := Lib.hid vx; clear vx
  have VY := Lib.hid vy; clear vy
  have HI := Lib.hid hi; clear hi
  have HT := Lib.hid ht; clear ht
  have HO := Lib.hid ho; clear ho
  have hT0 : PairB w _ ⟨A, n, ca, R⟩ ⟨B, n, cb, S⟩ := pairB_new w ⟨A, n, ca, R⟩ ⟨B, n, cb, S⟩ hx hy
  clear hx hy
  replace hT0 : PairB w ((w.alloc (.cells #[.slice A n ca] 24)).alloc (.cells #[.slice B n cb] 24)) ⟨A, n, ca, R⟩ ⟨B, n, cb, S⟩ := hT0
  go_enter Tryd.func6, Tryd.ntmps6
  go_wp2_with fail
  refine (awake_any _ (hT.below hT0.f)).mono ?_; rintro e w1 ⟨rfl, b1⟩
  have hT1 := hT0.next b1
  clear hT0 b1
  have c0 : w1.cell? ⟨w.heap.size, 0, none⟩ = some (.slice A n ca) := hT1.a.c0
  have c1 : w1.cell? ⟨w.heap.size + 1, 0, none⟩ = some (.slice B n cb) := hT1.b.c0
  go_wp2_with fail
  clear c0 c1
  refine (great_any w1.heap.size 2 (pk2 ⟨A, n, ca, R⟩ ⟨B, n, cb, S⟩) false _ (rels_two w1 (pk2 ⟨A, n, ca, R⟩ ⟨B, n, cb, S⟩) hT1.ra hT1.rb) (by decide) (Or.inr ⟨rfl, HG.out⟩)).mono ?_; rintro e w2 ⟨rfl, b2⟩
  have hT2 := hT1.next (((Below.refl _ _).alloc (Nat.le_refl _) _).trans (b2.mono (by simp)))
  clear hT1 b2
  have c0 : w2.cell? ⟨w.heap.size, 0, none⟩ = some (.slice A n ca) := hT2.a.c0
  go_wp2_with fail
  clear c0
  refine (refValid_yes A n ca R _ hT2.ra VX.out).mono ?_; rintro e w3 ⟨rfl, b3⟩
  have hT3 := hT2.next b3
  clear hT2 b3
  have Xr : BoxR w3 w.heap.size n A ca R (mat R) := ⟨hT3.a, hT3.ra, VX.out, fun _ _ _ _ => rfl⟩
  have Xo : Oth w3 (w.heap.size + 1) ⟨B, n, cb, S⟩ := ⟨hT3.b, hT3.rb⟩
  have hB := hT3.f
  clear hT3 HG VX
  have c0 := Xr.a.c0
  go_wp2_with fail
  clear c0
  refine (closure_box Xr).mono ?_; rintro e w4 ⟨A4, d4, R4, rfl, hr, _, hv, hm, hb⟩
  have Xc := boxR_new w4 A4 d4 hr hv hm
  replace Xr := Xr.nxt hb (.cells #[.slice A4 n d4] 24)
  replace Xo := Xo.nxt hb (.cells #[.slice A4 n d4] 24)
  replace hB := below_nxt hB hb (.cells #[.slice A4 n d4] 24)
  clear hr hv hm hb
  have c0 := Xc.a.c0
  go_wp2_with fail
  clear c0
  generalize w4.heap.size = p4 at *
  generalize w4.alloc (.cells #[.slice A4 n d4] 24) = W4 at *
  refine (closure_box Xc).mono ?_; rintro e w5 ⟨A5, d5, R5, rfl, hr, _, hv, hm, hb⟩
  have Xa := boxR_new w5 A5 d5 hr hv hm
  replace Xr := Xr.nxt hb (.cells #[.slice A5 n d5] 24)
  replace Xo := Xo.nxt hb (.cells #[.slice A5 n d5] 24)
  replace Xc := Xc.nxt hb (.cells #[.slice A5 n d5] 24)
  replace hB := below_nxt hB hb (.cells #[.slice A5 n d5] 24)
  clear hr hv hm hb
  have c0 := Xc.a.c0
  go_wp2_with fail
  clear c0
  generalize w5.heap.size = p5 at *
  generalize w5.alloc (.cells #[.slice A5 n d5] 24) = W5 at *
  refine (compose_box Xc Xc (hT.below hB)).mono ?_; rintro e w6 ⟨A6, d6, R6, rfl, hr, _, hv, hm, hb⟩
  have Xs := boxR_new w6 A6 d6 hr hv hm
  replace Xr := Xr.nxt hb (.cells #[.slice A6 n d6] 24)
  replace Xo := Xo.nxt hb (.cells #[.slice A6 n d6] 24)
  replace Xc := Xc.nxt hb (.cells #[.slice A6 n d6] 24)
  replace Xa := Xa.nxt hb (.cells #[.slice A6 n d6] 24)
  replace hB := below_nxt hB hb (.cells #[.slice A6 n d6] 24)
  clear hr hv hm hb
  have c0 := Xc.a.c0
  go_wp2_with fail
  clear c0
  generalize w6.heap.size = p6 at *
  generalize w6.alloc (.cells #[.slice A6 n d6] 24) = W6 at *
  refine (refValid_yes _ n _ _ _ Xc.r Xc.v).mono ?_; rintro e w7 ⟨rfl, hb⟩
  replace Xr := Xr.next hb
  replace Xo := Xo.next hb
  replace Xc := Xc.next hb
  replace Xa := Xa.next hb
  replace Xs := Xs.next hb
  replace hB := below_next hB hb
  clear hb
  have c0 := Xc.a.c0
  have c1 := Xr.a.c0
  have c2 := Xa.a.c0
  go_wp2_with fail
  clear c0 c1 c2
  refine (same_box Xa Xc (clo_idem n (mat R))).mono ?_; rintro e w8 ⟨rfl, hb⟩
  replace Xr := Xr.next hb
  replace Xo := Xo.next hb
  replace Xc := Xc.next hb
  replace Xa := Xa.next hb
  replace Xs := Xs.next hb
  replace hB := below_next hB hb
  clear hb Xa
  have c0 := Xr.a.c0
  have c1 := Xc.a.c0
  go_wp2_with fail
  clear c0 c1
  refine (inside_box Xr Xc (fun i _ j _ h => clo_base h)).mono ?_; rintro e w9 ⟨rfl, hb⟩
  replace Xr := Xr.next hb
  replace Xo := Xo.next hb
  replace Xc := Xc.next hb
  replace Xs := Xs.next hb
  replace hB := below_next hB hb
  clear hb
  have c0 := Xs.a.c0
  have c1 := Xc.a.c0
  go_wp2_with fail
  clear c0 c1
  refine (inside_box Xs Xc (clo_steps n (mat R))).mono ?_; rintro e w10 ⟨rfl, hb⟩
  replace Xr := Xr.next hb
  replace Xo := Xo.next hb
  replace Xc := Xc.next hb
  replace Xs := Xs.next hb
  replace hB := below_next hB hb
  clear hb Xs
  have c0 := Xo.a.c0
  go_wp2_with fail
  clear c0
  refine (refValid_yes B n cb S _ Xo.r VY.out).mono ?_; rintro e w11 ⟨rfl, hb⟩
  replace Xr := Xr.next hb
  replace Xo := Xo.next hb
  replace Xc := Xc.next hb
  replace hB := below_next hB hb
  clear hb
  have Xp : BoxR w11 (w.heap.size + 1) n B cb S (mat S) := ⟨Xo.a, Xo.r, VY.out, fun _ _ _ _ => rfl⟩
  clear Xo VY
  have c0 := Xp.a.c0
  have c1 := Xr.a.c0
  go_wp2_with fail
  clear c0 c1
  refine (inside_box Xr Xp HI.out).mono ?_; rintro e w12 ⟨rfl, hb⟩
  replace Xr := Xr.next hb
  replace Xc := Xc.next hb
  replace Xp := Xp.next hb
  replace hB := below_next hB hb
  clear hb
  have c0 := Xp.a.c0
  go_wp2_with fail
  clear c0
  refine (compose_box Xp Xp (hT.below hB)).mono ?_; rintro e w13 ⟨A13, d13, R13, rfl, hr, _, hv, hm, hb⟩
  have Xw := boxR_new w13 A13 d13 hr hv hm
  replace Xr := Xr.nxt hb (.cells #[.slice A13 n d13] 24)
  replace Xc := Xc.nxt hb (.cells #[.slice A13 n d13] 24)
  replace Xp := Xp.nxt hb (.cells #[.slice A13 n d13] 24)
  replace hB := below_nxt hB hb (.cells #[.slice A13 n d13] 24)
  clear hr hv hm hb
  have c0 := Xw.a.c0
  have c1 := Xp.a.c0
  go_wp2_with fail
  clear c0 c1
  generalize w13.heap.size = p13 at *
  generalize w13.alloc (.cells #[.slice A13 n d13] 24) = W13 at *
  refine (inside_box_no Xw Xp HT.out).mono ?_; rintro e w14 ⟨rfl, hb⟩
  replace Xr := Xr.next hb
  replace Xc := Xc.next hb
  replace Xp := Xp.next hb
  replace Xw := Xw.next hb
  replace hB := below_next hB hb
  clear hb Xw
  have c0 := Xr.a.c0
  go_wp2_with fail
  clear c0
  refine (reduction_box Xr (hT.below hB) HO.out).mono ?_; rintro e w15 ⟨A15, d15, R15, rfl, hr, _, hv, hm, hb⟩
  have Xd := boxR_new w15 A15 d15 hr hv hm
  replace Xr := Xr.nxt hb (.cells #[.slice A15 n d15] 24)
  replace Xc := Xc.nxt hb (.cells #[.slice A15 n d15] 24)
  replace Xp := Xp.nxt hb (.cells #[.slice A15 n d15] 24)
  replace hB := below_nxt hB hb (.cells #[.slice A15 n d15] 24)
  clear hr hv hm hb
  have c0 := Xr.a.c0
  go_wp2_with fail
  clear c0
  generalize w15.heap.size = p15 at *
  generalize w15.alloc (.cells #[.slice A15 n d15] 24) = W15 at *
  refine (acyclic_ok A n ca R _ Xr.r Xr.v (hT.below hB)).mono ?_; rintro e w16 ⟨rfl, hb⟩
  rw [HO.out]
  replace Xr := Xr.next hb
  replace Xc := Xc.next hb
  replace Xp := Xp.next hb
  replace Xd := Xd.next hb
  replace hB := below_next hB hb
  clear hb
  have c0 := Xd.a.c0
  go_wp2_with fail
  clear c0
  refine (closure_box Xd).mono ?_; rintro e w17 ⟨A17, d17, R17, rfl, hr, _, hv, hm, hb⟩
  have Xs := boxR_new w17 A17 d17 hr hv hm
  replace Xr := Xr.nxt hb (.cells #[.slice A17 n d17] 24)
  replace Xc := Xc.nxt hb (.cells #[.slice A17 n d17] 24)
  replace Xp := Xp.nxt hb (.cells #[.slice A17 n d17] 24)
  replace Xd := Xd.nxt hb (.cells #[.slice A17 n d17] 24)
  replace hB := below_nxt hB hb (.cells #[.slice A17 n d17] 24)
  clear hr hv hm hb
  have hL2 := pairsL_len (red n (mat R)) n n
  obtain ⟨L, hL⟩ : ∃ L, L = pairsL (red n (mat R)) n n := ⟨_, rfl⟩
  rw [← hL] at hL2
  have hL3 : L.length ≤ 1000 := by omega
  have HL := Lib.hid hL
  clear hL hL2 hnn
  have c0 := Xd.a.c0
  go_wp2_with fail
  clear c0
  generalize w17.heap.size = p17 at *
  generalize w17.alloc (.cells #[.slice A17 n d17] 24) = W17 at *
  refine (pairs_boxL Xd (hT.below hB) HL.out).mono ?_; rintro e w18 ⟨vP, rfl, hown, hb⟩
  replace Xr := Xr.next hb
  replace Xc := Xc.next hb
  replace Xp := Xp.next hb
  replace Xd := Xd.next hb
  replace Xs := Xs.next hb
  replace hB := below_next hB hb
  clear hb
  obtain ⟨AP, cP, rfl, _⟩ := own_prs hown
  replace hown := own_mono hown (Nat.zero_le _)
  have hacy : Hid (Acy n (mat R)) := by
    obtain ⟨r, hr⟩ := Option.isSome_iff_exists.1 HO.out
    exact order_acy hr
  have c0 := Xs.a.c0
  have c1 := Xc.a.c0
  go_wp2_with fail
  clear c0 c1
  refine (same_box Xs Xc (red_same hacy.out)).mono ?_; rintro e w19 ⟨rfl, hb⟩
  replace Xr := Xr.next hb
  replace Xc := Xc.next hb
  replace Xp := Xp.next hb
  replace Xd := Xd.next hb
  replace Xs := Xs.next hb
  replace hown := own_below hown hb
  replace hB := below_next hB hb
  clear hb Xs
  have c0 := Xd.a.c0
  have c1 := Xr.a.c0
  go_wp2_with fail
  clear c0 c1
  refine (inside_box Xd Xr (red_sub n (mat R))).mono ?_; rintro e w20 ⟨rfl, hb⟩
  replace Xr := Xr.next hb
  replace Xc := Xc.next hb
  replace Xp := Xp.next hb
  replace Xd := Xd.next hb
  replace hown := own_below hown hb
  replace hB := below_next hB hb
  clear hb Xd
  go_wp2_with fail
  go_loopw [19, 20, 21, 22, 23, 178] (fun _ _ _ _ _ i wr => ∃ K : Nat, K ≤ L.length ∧ i = .int .i64 K ∧ BoxR wr w.heap.size n A ca R (mat R) ∧ BoxR wr p4 n A4 d4 R4 (clo n (mat R)) ∧ wr.ownsRow 0 38 2 (.slice AP L.length cP) L.length (pvals L) ∧ Below w.heap.size w wr) (fun _ _ _ _ _ i _ => L.length - (intOf i).toNat)
  case atStart => exact ⟨0, by omega, rfl, Xr, Xc, hown, hB⟩
  case round =>
    clear Xr Xc Xp hown hB
    obtain ⟨K, hK, rfl, Xr, Xc, hown, hB⟩ := hrel
    by_cases hlt : K < L.length
    · have hcl : Hid (∀ u, Below wr.heap.size wr u → Calls Tryd.prog 38 #[.slice AP L.length cP] u fun e w' => ∃ g c, e = .returned (.slice (some ⟨g, 0, none⟩) L.length c) ∧ w'.ownsRow u.heap.size 38 2 (.slice (some ⟨g, 0, none⟩) L.length c) L.length (pvals L) ∧ u.heap.size ≤ g ∧ Below u.heap.size u w') := fun u hu => clone_pairs L _ _ u (by omega) (by omega) (own_below hown hu)
      have hdl : Hid (∀ u g c, u.ownsRow wr.heap.size 38 2 (.slice (some ⟨g, 0, none⟩) L.length c) L.length (pvals L) → ∀ J : Int, J = (K : Int) + 1 → Calls Tryd.prog 37 #[.slice (some ⟨g, 0, none⟩) L.length c, .int .i64 K, .int .i64 J] u fun e w' => ∃ c, e = .returned (.slice (some ⟨g, 0, none⟩) (L.length - 1) c) ∧ Prs w' (some ⟨g, 0, none⟩) (L.length - 1) (zpair (L.eraseIdx K)) ∧ u.grownBy w' (some g)) := fun u g c hu J hJ => by
        obtain rfl : J = ((K + 1 : Nat) : Int) := by omega
        exact delete_pairs L wr.heap.size g c K (K + 1) u hu hlt rfl
      have hmk : Hid (∀ u g c, Prs u (some ⟨g, 0, none⟩) (L.length - 1) (zpair (L.eraseIdx K)) → Calls Tryd.prog 11 #[.int .i64 n, .slice (some ⟨g, 0, none⟩) (L.length - 1) c] u (RelOk u n (fun i j => (L.eraseIdx K).contains (i, j)))) := fun u g c hu =>
        make_prs n _ _ c (L.eraseIdx K) u hn (erase_len hlt) hu (by rw [← erase_len hlt]; omega) (fun p hp => by
          rw [HL.out] at hp
          obtain ⟨h1, h2, _⟩ := mem_pairsL.1 (show (p.1, p.2) ∈ _ from List.mem_of_mem_eraseIdx hp)
          exact ⟨h1, h2⟩)
      have hlost : Hid (∃ a b, a < n ∧ b < n ∧ clo n (fun i j => (L.eraseIdx K).contains (i, j)) a b ≠ clo n (mat R) a b) := by
        rw [HL.out] at hlt ⊢; exact lost_at hlt
      have hwrap : IntKind.i64.wrap ((K : Int) + 1) = (K : Int) + 1 := IntWalk.i64_in _ (by omega)
      have c0 := Xr.a.c0
      go_wp2_with fail
      clear c0
      have hss : Hid (∀ w', Below wr.heap.size wr w' → Below wr.heap.size wr w' ∧ w'.cell? ⟨w.heap.size, 0, none⟩ = some (.slice A n ca)) := fun w' b => ⟨b, (Xr.next b).a.c0⟩
      go_region_held3 (fun w' => Below wr.heap.size wr w' ∧ w'.cell? ⟨w.heap.size, 0, none⟩ = some (.slice A n ca))
        (first
          | exact hss.out _ (Below.refl _ _).drew
          | exact hss.out _ bc7
          | exact hss.out _ bc6
          | exact hss.out _ bc5
          | exact hss.out _ (below_alc bc7 _)
          | exact hss.out _ (below_put bc7 (Nat.le_refl _) _)
          | exact hss.out _ (below_put bc7 bc5.size _)
          | exact hss.out _ (below_put bc7 bc6.size _)
          | exact hss.out _ (below_put bc7 bc7.size _)
          | exact hss.out _ (below_alc (And.left (by assumption)) _))
        (first
          | (go_at_call 38; (with_reducible refine (hcl.out _ (And.left (by assumption))).mono ?_); rintro e w5 ⟨g5, c5, rfl, hown5, hg5, b5⟩; have bc5 := below_next (And.left (by assumption)) b5; replace hown5 := own_mono hown5 (show wr.heap.size ≤ _ from Below.size (And.left (by assumption))); have hl5 := (World.ownsRow.lt hown5 g5 rfl).2; have hr5 := (World.ownsRow.lt hown5 g5 rfl).1; (try (have z5 : RelAt w5 wr.heap.size none 0 0 := RelAt.below (w := (wr.alloc (Obj.cells #[Value.slice none 0 0] 24)).drew) (relAt_new wr none 0 0) b5; have hg5' : wr.heap.size + 1 ≤ g5 := (by simpa using hg5))))
          | (go_at_call 37; (with_reducible refine (hdl.out w5 g5 c5 hown5 _ rfl).mono ?_); rintro e w6 ⟨c6, rfl, hP6, k6⟩; have bc6 := bc5.grown k6 bc5.size (by intro k hk; cases hk; omega); have hs6 := k6.size; (try have z6 := relAt_grown2 z5 k6 (by omega)))
          | (go_at_call 37; (with_reducible refine (hdl.out (w5.alloc (Obj.cells #[Value.slice none 0 0] 24)) g5 c5 (own_below hown5 (below_al _ _)) _ rfl).mono ?_); rintro e w6 ⟨c6, rfl, hP6, k6⟩; have bc6 := (bc5.alloc bc5.size (Obj.cells #[Value.slice none 0 0] 24)).grown k6 (by have := bc5.size; simp; omega) (by intro k hk; cases hk; omega); have hs6 : w5.heap.size + 1 ≤ w6.heap.size := (by have := k6.size; simpa using this); have z6 := relAt_grown2 (relAt_new w5 none 0 0) k6 (by omega))
          | (go_at_call 11; (with_reducible refine (hmk.out w6 g5 c6 hP6).mono ?_); rintro e w7 ⟨A7, d7, R7, rfl, hr7, hf7, hv7, hm7, b7⟩; have bc7 := below_next bc6 b7; (try (have hp7 := z6.lt; have z7 := z6.below b7; have y7 := z7.c0; have f7 := z7.free 0)))
          | (go_at_call 11; (with_reducible refine (hmk.out (w6.alloc (Obj.cells #[Value.slice none 0 0] 24)) g5 c6 (hP6.below (below_al _ _))).mono ?_); rintro e w7 ⟨A7, d7, R7, rfl, hr7, hf7, hv7, hm7, b7⟩; have bc7 := below_next (bc6.alloc bc6.size (Obj.cells #[Value.slice none 0 0] 24)) b7; have hp7 := (relAt_new w6 none 0 0).lt; have z7 := (relAt_new w6 none 0 0).below b7; have y7 := z7.c0; have f7 := z7.free 0))
      all_goals
        first
          | have Xl := boxR_put (c := d7) z7 hr7 hf7 hp7 hv7 hm7
          | have Xl := boxR_new w7 A7 d7 hr7 hv7 hm7
        have bl := And.left (by assumption)
        replace Xr := Xr.next bl
        replace Xc := Xc.next bl
        replace hown := own_below hown bl
        replace hB := below_next hB bl
        have c0 := Xl.a.c0
        go_wp2_with fail
        clear c0
        refine (closure_box Xl).mono ?_; rintro e w8 ⟨A8, d8, R8, rfl, hr8, _, hv8, hm8, hb8⟩
        have Xx := boxR_new w8 A8 d8 hr8 hv8 hm8
        replace Xr := Xr.nxt hb8 (.cells #[.slice A8 n d8] 24)
        replace Xc := Xc.nxt hb8 (.cells #[.slice A8 n d8] 24)
        replace hown := own_below (own_below hown hb8) (below_al w8 (.cells #[.slice A8 n d8] 24))
        replace hB := below_nxt hB hb8 (.cells #[.slice A8 n d8] 24)
        have c0 := Xx.a.c0
        have c1 := Xc.a.c0
        go_wp2_with fail
        clear c0 c1
        obtain ⟨a, b, ha, hb, hne⟩ := hlost.out
        refine (same_box_no Xx Xc a b ha hb hne).mono ?_; rintro e w9 ⟨rfl, hb9⟩
        go_wp2_with fail
        go_roundw
        case rel => exact ⟨K + 1, by omega, by go_num, Xr.next hb9, Xc.next hb9, own_below hown hb9, below_next hB hb9⟩
        case measure => simp [intOf]; omega
    · obtain rfl : K = L.length := by omega
      go_wp2_with fail
      go_ret
      exact ⟨rfl, hB⟩
end Go.Proofs.YtfjikeejifhnbaaDoor
