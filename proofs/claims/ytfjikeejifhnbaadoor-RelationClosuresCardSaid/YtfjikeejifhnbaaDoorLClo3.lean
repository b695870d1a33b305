/- RelationClosures walked: both fit. -/
import Derived.Test.YtfjikeejifhnbaaDoorRIs
import Derived.Test.YtfjikeejifhnbaaDoorLEiM
namespace Go.Proofs.YtfjikeejifhnbaaDoor
open Go.RowKit
set_option maxRecDepth 100000 in
set_option maxHeartbeats 16000000 in
theorem clo_ok_cyc (A B : Option Addr) (n ca cb : Nat) (R S : Nat → RowD) (w : World) (hx : Rel w A n R) (hy : Rel w B n S) (hT : Tab w) (hg : ∀ k, k < 2 → ¬ Great (pk2 ⟨A, n, ca, R⟩ ⟨B, n, cb, S⟩ k).n (pk2 ⟨A, n, ca, R⟩ ⟨B, n, cb, S⟩ k).R) (vx : VRel n R) (vy : VRel n S) (ho : orderOf n (mat R) = none) :
    Calls Tryd.prog 4 #[.agg #[.slice A n ca], .agg #[.slice B n cb]] w fun e w' => e = .returned (.bool true) ∧ Below w.heap.size w w' := by
  have hn : n ≤ 512 := vx.1
  have hn2 : n ≤ 1000000 := by omega
  have hq2 : ((n : Int) != (n : Int)) = false := by simp
  have HG := Lib.hid hg; clear hg
  have VX := Lib.hid vx; clear vx
  have VY := Lib.hid vy; clear vy
  have HO := Lib.hid ho; clear ho
  have hT0 : PairB w _ ⟨A, n, ca, R⟩ ⟨B, n, cb, S⟩ := pairB_new w ⟨A, n, ca, R⟩ ⟨B, n, cb, S⟩ hx hy
  clear hx hy
  replace hT0 : PairB w ((w.alloc (.cells #[.slice A n ca] 24)).alloc (.cells #[.slice B n cb] 24)) ⟨A, n, ca, R⟩ ⟨B, n, cb, S⟩ := hT0
  go_enter Tryd.func4, Tryd.ntmps4
  go_wp2_with fail
  refine (awake_any _ (hT.below hT0.f)).mono ?_; rintro e w1 ⟨rfl, b1⟩
  have hT1 := hT0.next b1
  clear hT0 b1
  have c0 : w1.cell? ⟨w.heap.size, 0, none⟩ = some (.slice A n ca) := hT1.a.c0
  have c1 : w1.cell? ⟨w.heap.size + 1, 0, none⟩ = some (.slice B n cb) := hT1.b.c0
  go_wp2_with fail
  clear c0 c1
  refine (great_any w1.heap.size 2 (pk2 ⟨A, n, ca, R⟩ ⟨B, n, cb, S⟩) false _ (rels_two w1 (pk2 ⟨A, n, ca, R⟩ ⟨B, n, cb, S⟩) hT1.ra hT1.rb) (by decide) (Or.inr ⟨rfl, HG.out⟩)).mono ?_; rintro e w2 ⟨rfl, b2⟩
  have hT2 := hT1.next (((Below.refl _ _).alloc (Nat.le_refl _) _).trans (b2.mono (by simp)))
  clear hT1 b2
  have Xr : BoxR w2 w.heap.size n A ca R (mat R) := ⟨hT2.a, hT2.ra, VX.out, fun _ _ _ _ => rfl⟩
  have Xo : BoxR w2 (w.heap.size + 1) n B cb S (mat S) := ⟨hT2.b, hT2.rb, VY.out, fun _ _ _ _ => rfl⟩
  have hB := hT2.f
  clear hT2 HG
  have c0 := Xr.a.c0
  go_wp2_with fail
  clear c0
  refine (closure_box Xr).mono ?_; rintro e w3 ⟨A3, d3, R3, rfl, hr, _, hv, hm, hb⟩
  have Xc := boxR_new w3 A3 d3 hr hv hm
  replace Xr := Xr.nxt hb (.cells #[.slice A3 n d3] 24)
  replace Xo := Xo.nxt hb (.cells #[.slice A3 n d3] 24)
  replace hB := below_nxt hB hb (.cells #[.slice A3 n d3] 24)
  clear hr hv hm hb
  have c0 := Xr.a.c0
  go_wp2_with fail
  clear c0
  generalize w3.heap.size = p3 at *
  generalize w3.alloc (.cells #[.slice A3 n d3] 24) = W3 at *
  refine (reduction_cycle A n ca R _ Xr.r Xr.v (hT.below hB) HO.out).mono ?_; rintro e w4 ⟨rfl, hb⟩
  have Xd : NilB (w4.alloc (.cells #[.slice none 0 0] 24)) w4.heap.size := ⟨relAt_new w4 none 0 0⟩
  replace Xr := Xr.nxt hb (.cells #[.slice none 0 0] 24)
  replace Xo := Xo.nxt hb (.cells #[.slice none 0 0] 24)
  replace Xc := Xc.nxt hb (.cells #[.slice none 0 0] 24)
  replace hB := below_nxt hB hb (.cells #[.slice none 0 0] 24)
  clear hb
  have c0 := Xr.a.c0
  go_wp2_with fail
  clear c0
  generalize w4.heap.size = p4 at *
  generalize w4.alloc (.cells #[.slice none 0 0] 24) = W4 at *
  refine (inverse_box Xr (hT.below hB)).mono ?_; rintro e w5 ⟨A5, d5, R5, rfl, hr, _, hv, hm, hb⟩
  have Xi := boxR_new w5 A5 d5 hr hv hm
  replace Xr := Xr.nxt hb (.cells #[.slice A5 n d5] 24)
  replace Xo := Xo.nxt hb (.cells #[.slice A5 n d5] 24)
  replace Xc := Xc.nxt hb (.cells #[.slice A5 n d5] 24)
  replace Xd := Xd.nxt hb (.cells #[.slice A5 n d5] 24)
  replace hB := below_nxt hB hb (.cells #[.slice A5 n d5] 24)
  clear hr hv hm hb
  have c0 := Xr.a.c0
  have c1 := Xo.a.c0
  go_wp2_with fail
  clear c0 c1
  generalize w5.heap.size = p5 at *
  generalize w5.alloc (.cells #[.slice A5 n d5] 24) = W5 at *
  refine (compose_box Xr Xo (hT.below hB)).mono ?_; rintro e w6 ⟨A6, d6, R6, rfl, hr, _, hv, hm, hb⟩
  have Xx := boxR_new w6 A6 d6 hr hv hm
  replace Xr := Xr.nxt hb (.cells #[.slice A6 n d6] 24)
  replace Xo := Xo.nxt hb (.cells #[.slice A6 n d6] 24)
  replace Xc := Xc.nxt hb (.cells #[.slice A6 n d6] 24)
  replace Xd := Xd.nxt hb (.cells #[.slice A6 n d6] 24)
  replace Xi := Xi.nxt hb (.cells #[.slice A6 n d6] 24)
  replace hB := below_nxt hB hb (.cells #[.slice A6 n d6] 24)
  clear hr hv hm hb
  have c0 := Xr.a.c0
  go_wp2_with fail
  clear c0
  generalize w6.heap.size = p6 at *
  generalize w6.alloc (.cells #[.slice A6 n d6] 24) = W6 at *
  refine (refValid_yes A n ca R _ Xr.r Xr.v).mono ?_; rintro e w7 ⟨rfl, hb⟩
  replace Xr := Xr.next hb
  replace Xo := Xo.next hb
  replace Xc := Xc.next hb
  replace Xd := Xd.next hb
  replace Xi := Xi.next hb
  replace Xx := Xx.next hb
  replace hB := below_next hB hb
  clear hb
  have c0 := Xr.a.c0
  go_wp2_with fail
  clear c0
  refine (table_any A n ca R _ Xr.r Xr.v).mono ?_; rintro e w8 ⟨vT, BT, CT, rfl, hBT0, hb⟩
  replace Xr := Xr.next hb
  replace Xo := Xo.next hb
  replace Xc := Xc.next hb
  replace Xd := Xd.next hb
  replace Xi := Xi.next hb
  replace Xx := Xx.next hb
  replace hB := below_next hB hb
  have hBT := hBT0.mono (Nat.zero_le _)
  clear hb hBT0
  go_wp2_with fail
  have hcl : Hid (∀ u, Below w8.heap.size w8 u → Calls Tryd.prog 25 #[vT] u (TabOk u n (clo n (mat R)))) := fun u hu => refClosure_any vT n BT CT (mat R) u (hBT.below hu) hn
  have hin : Hid (∀ u, Below w8.heap.size w8 u → Calls Tryd.prog 26 #[vT] u (TabOk u n (inv (mat R)))) := fun u hu => refInverse_any vT n BT CT (mat R) u (hBT.below hu) hn
  have hs1 : Hid (∀ u v B' C', Below w8.heap.size w8 u → BTab u 0 v n n B' C' (clo n (mat R)) → Calls Tryd.prog 23 #[.agg #[.slice A3 n d3], .int .i64 0, .int .i64 0, v] u fun e w' => e = .returned (.bool true) ∧ Below u.heap.size u w') := fun u v B' C' hu h5 => is_ok A3 n d3 R3 v B' C' _ u (Xc.r.below hu) Xc.v h5 Xc.m
  have hs2 : Hid (∀ u v B' C', Below w8.heap.size w8 u → BTab u 0 v n n B' C' (inv (mat R)) → Calls Tryd.prog 23 #[.agg #[.slice A5 n d5], .int .i64 0, .int .i64 0, v] u fun e w' => e = .returned (.bool true) ∧ Below u.heap.size u w') := fun u v B' C' hu h5 => is_ok A5 n d5 R5 v B' C' _ u (Xi.r.below hu) Xi.v h5 Xi.m
  have hss : Hid (∀ w', Below w8.heap.size w8 w' → Below w8.heap.size w8 w' ∧ w'.cell? ⟨p3, 0, none⟩ = some (.slice A3 n d3) ∧ w'.cell? ⟨p5, 0, none⟩ = some (.slice A5 n d5)) := fun w' b => ⟨b, (Xc.next b).a.c0, (Xi.next b).a.c0⟩
  go_region_held3 (fun w' => Below w8.heap.size w8 w' ∧ w'.cell? ⟨p3, 0, none⟩ = some (.slice A3 n d3) ∧ w'.cell? ⟨p5, 0, none⟩ = some (.slice A5 n d5))
    (first
      | exact hss.out _ (Below.refl _ _).drew
      | exact hss.out _ bc24
      | exact hss.out _ bc23
      | exact hss.out _ bc22
      | exact hss.out _ bc21)
    (first
      | (go_at_call 25; (with_reducible refine (hcl.out _ (And.left (by assumption))).mono ?_); rintro e x21 ⟨v21, B21, C21, rfl, hB21, b21⟩; replace hB21 := hB21.mono (Nat.zero_le _); have bc21 := below_next (And.left (by assumption)) b21)
      | (go_at_call 23; (with_reducible refine (hs1.out _ _ _ _ bc21 hB21).mono ?_); rintro e x22 ⟨rfl, b22⟩; have bc22 := below_next bc21 b22)
      | (go_at_call 26; (with_reducible refine (hin.out _ (And.left (by assumption))).mono ?_); rintro e x23 ⟨v23, B23, C23, rfl, hB23, b23⟩; replace hB23 := hB23.mono (Nat.zero_le _); have bc23 := below_next (And.left (by assumption)) b23)
      | (go_at_call 23; (with_reducible refine (hs2.out _ _ _ _ bc23 hB23).mono ?_); rintro e x24 ⟨rfl, b24⟩; have bc24 := below_next bc23 b24))
  have bl := bc24
  replace Xr := Xr.next bl
  replace Xo := Xo.next bl
  replace Xc := Xc.next bl
  replace Xd := Xd.next bl
  replace Xi := Xi.next bl
  replace Xx := Xx.next bl
  replace hBT := hBT.below bl
  replace hB := below_next hB bl
  clear bl hss
  clear hcl hin hs1 hs2
  clear Xc Xi
  go_wp2_with fail
  obtain ⟨s, hs⟩ := cyc_first HO.out
  refine (refAcyclic_no vT n BT CT (mat R) _ hBT hn hs).mono ?_; rintro e w30 ⟨rfl, hb⟩
  clear hs
  replace Xr := Xr.next hb
  replace Xo := Xo.next hb
  replace Xd := Xd.next hb
  replace Xx := Xx.next hb
  replace hBT := hBT.below hb
  replace hB := below_next hB hb
  clear hb
  have c0 := Xd.a.c0
  go_wp2_with fail
  clear c0
  refine (is_err 10 _ _ (by decide)).mono ?_; rintro e w40 ⟨rfl, hb⟩
  replace Xr := Xr.next hb
  replace Xo := Xo.next hb
  replace Xd := Xd.next hb
  replace Xx := Xx.next hb
  replace hBT := hBT.below hb
  replace hB := below_next hB hb
  clear hb Xd
  have c0 := Xo.a.c0
  go_wp2_with fail
  clear c0
  refine (refValid_yes B n cb S _ Xo.r VY.out).mono ?_; rintro e w41 ⟨rfl, hb⟩
  replace Xr := Xr.next hb
  replace Xo := Xo.next hb
  replace Xx := Xx.next hb
  replace hBT := hBT.below hb
  replace hB := below_next hB hb
  clear hb
  have c0 := Xr.a.c0
  have c1 := Xo.a.c0
  go_wp2_with fail
  clear c0 c1
  have htb : Hid (∀ u, Below w41.heap.size w41 u → Calls Tryd.prog 24 #[.agg #[.slice B n cb]] u (TabOk u n (mat S))) := fun u hu => table_any B n cb S u (Xo.r.below hu) Xo.v
  have hco : Hid (∀ u v B' C', Below w41.heap.size w41 u → BTab u 0 v n n B' C' (mat S) → Calls Tryd.prog 29 #[vT, v] u (TabOk u n (comp n (mat R) (mat S)))) := fun u v B' C' hu h5 => refCompose_any vT v n BT CT B' C' (mat R) (mat S) u (hBT.below hu) h5 hn
  have hs4 : Hid (∀ u v B' C', Below w41.heap.size w41 u → BTab u 0 v n n B' C' (comp n (mat R) (mat S)) → Calls Tryd.prog 23 #[.agg #[.slice A6 n d6], .int .i64 0, .int .i64 0, v] u fun e w' => e = .returned (.bool true) ∧ Below u.heap.size u w') := fun u v B' C' hu h5 => is_ok A6 n d6 R6 v B' C' _ u (Xx.r.below hu) Xx.v h5 Xx.m
  have hss : Hid (∀ w', Below w41.heap.size w41 w' → Below w41.heap.size w41 w' ∧ w'.cell? ⟨p6, 0, none⟩ = some (.slice A6 n d6) ∧ w'.cell? ⟨(w.heap.size + 1), 0, none⟩ = some (.slice B n cb)) := fun w' b => ⟨b, (Xx.next b).a.c0, (Xo.next b).a.c0⟩
  go_region_held3 (fun w' => Below w41.heap.size w41 w' ∧ w'.cell? ⟨p6, 0, none⟩ = some (.slice A6 n d6) ∧ w'.cell? ⟨(w.heap.size + 1), 0, none⟩ = some (.slice B n cb))
    (first
      | exact hss.out _ (Below.refl _ _).drew
      | exact hss.out _ bc53
      | exact hss.out _ bc52
      | exact hss.out _ bc51)
    (first
      | (go_at_call 24; (with_reducible refine (htb.out _ (And.left (by assumption))).mono ?_); rintro e x51 ⟨v51, B51, C51, rfl, hB51, b51⟩; replace hB51 := hB51.mono (Nat.zero_le _); have bc51 := below_next (And.left (by assumption)) b51)
      | (go_at_call 29; (with_reducible refine (hco.out _ _ _ _ bc51 hB51).mono ?_); rintro e x52 ⟨v52, B52, C52, rfl, hB52, b52⟩; replace hB52 := hB52.mono (Nat.zero_le _); have bc52 := below_next bc51 b52)
      | (go_at_call 23; (with_reducible refine (hs4.out _ _ _ _ bc52 hB52).mono ?_); rintro e x53 ⟨rfl, b53⟩; have bc53 := below_next bc52 b53))
  have bl := bc53
  replace Xr := Xr.next bl
  replace Xo := Xo.next bl
  replace Xx := Xx.next bl
  replace hBT := hBT.below bl
  replace hB := below_next hB bl
  clear bl hss
  go_wp2_with fail
  go_ret
  exact ⟨rfl, hB⟩
set_option maxRecDepth 100000 in
set_option maxHeartbeats 16000000 in
theorem clo_ok_acy (A B : Option Addr) (n ca cb : Nat) (R S : Nat → RowD) (w : World) (hx : Rel w A n R) (hy : Rel w B n S) (hT : Tab w) (hg : ∀ k, k < 2 → ¬ Great (pk2 ⟨A, n, ca, R⟩ ⟨B, n, cb, S⟩ k).n (pk2 ⟨A, n, ca, R⟩ ⟨B, n, cb, S⟩ k).R) (vx : VRel n R) (vy : VRel n S) (ho : (orderOf n (mat R)).isSome = true) :
    Calls Tryd.prog 4 #[.agg #[.slice A n ca], .agg #[.slice B n cb]] w fun e w' => e = .returned (.bool true) ∧ Below w.heap.size w w' := by
  have hn : n ≤ 512 := vx.1
  have hn2 : n ≤ 1000000 := by omega
  have hq2 : ((n : Int) != (n : Int)) = false := by simp
  have HG := Lib.hid hg; clear hg
  have VX := Lib.hid vx; clear vx
  have VY := Lib.hid vy; clear vy
  have HO := Lib.hid ho; clear ho
  have hT0 : PairB w _ ⟨A, n, ca, R⟩ ⟨B, n, cb, S⟩ := pairB_new w ⟨A, n, ca, R⟩ ⟨B, n, cb, S⟩ hx hy
  clear hx hy
  replace hT0 : PairB w ((w.alloc (.cells #[.slice A n ca] 24)).alloc (.cells #[.slice B n cb] 24)) ⟨A, n, ca, R⟩ ⟨B, n, cb, S⟩ := hT0
  go_enter Tryd.func4, Tryd.ntmps4
  go_wp2_with fail
  refine (awake_any _ (hT.below hT0.f)).mono ?_; rintro e w1 ⟨rfl, b1⟩
  have hT1 := hT0.next b1
  clear hT0 b1
  have c0 : w1.cell? ⟨w.heap.size, 0, none⟩ = some (.slice A n ca) := hT1.a.c0
  have c1 : w1.cell? ⟨w.heap.size + 1, 0, none⟩ = some (.slice B n cb) := hT1.b.c0
  go_wp2_with fail
  clear c0 c1
  refine (great_any w1.heap.size 2 (pk2 ⟨A, n, ca, R⟩ ⟨B, n, cb, S⟩) false _ (rels_two w1 (pk2 ⟨A, n, ca, R⟩ ⟨B, n, cb, S⟩) hT1.ra hT1.rb) (by decide) (Or.inr ⟨rfl, HG.out⟩)).mono ?_; rintro e w2 ⟨rfl, b2⟩
  have hT2 := hT1.next (((Below.refl _ _).alloc (Nat.le_refl _) _).trans (b2.mono (by simp)))
  clear hT1 b2
  have Xr : BoxR w2 w.heap.size n A ca R (mat R) := ⟨hT2.a, hT2.ra, VX.out, fun _ _ _ _ => rfl⟩
  have Xo : BoxR w2 (w.heap.size + 1) n B cb S (mat S) := ⟨hT2.b, hT2.rb, VY.out, fun _ _ _ _ => rfl⟩
  have hB := hT2.f
  clear hT2 HG
  have c0 := Xr.a.c0
  go_wp2_with fail
  clear c0
  refine (closure_box Xr).mono ?_; rintro e w3 ⟨A3, d3, R3, rfl, hr, _, hv, hm, hb⟩
  have Xc := boxR_new w3 A3 d3 hr hv hm
  replace Xr := Xr.nxt hb (.cells #[.slice A3 n d3] 24)
  replace Xo := Xo.nxt hb (.cells #[.slice A3 n d3] 24)
  replace hB := below_nxt hB hb (.cells #[.slice A3 n d3] 24)
  clear hr hv hm hb
  have c0 := Xr.a.c0
  go_wp2_with fail
  clear c0
  generalize w3.heap.size = p3 at *
  generalize w3.alloc (.cells #[.slice A3 n d3] 24) = W3 at *
  refine (reduction_box Xr (hT.below hB) HO.out).mono ?_; rintro e w4 ⟨A4, d4, R4, rfl, hr, _, hv, hm, hb⟩
  have Xd := boxR_new w4 A4 d4 hr hv hm
  replace Xr := Xr.nxt hb (.cells #[.slice A4 n d4] 24)
  replace Xo := Xo.nxt hb (.cells #[.slice A4 n d4] 24)
  replace Xc := Xc.nxt hb (.cells #[.slice A4 n d4] 24)
  replace hB := below_nxt hB hb (.cells #[.slice A4 n d4] 24)
  clear hr hv hm hb
  have c0 := Xr.a.c0
  go_wp2_with fail
  clear c0
  generalize w4.heap.size = p4 at *
  generalize w4.alloc (.cells #[.slice A4 n d4] 24) = W4 at *
  refine (inverse_box Xr (hT.below hB)).mono ?_; rintro e w5 ⟨A5, d5, R5, rfl, hr, _, hv, hm, hb⟩
  have Xi := boxR_new w5 A5 d5 hr hv hm
  replace Xr := Xr.nxt hb (.cells #[.slice A5 n d5] 24)
  replace Xo := Xo.nxt hb (.cells #[.slice A5 n d5] 24)
  replace Xc := Xc.nxt hb (.cells #[.slice A5 n d5] 24)
  replace Xd := Xd.nxt hb (.cells #[.slice A5 n d5] 24)
  replace hB := below_nxt hB hb (.cells #[.slice A5 n d5] 24)
  clear hr hv hm hb
  have c0 := Xr.a.c0
  have c1 := Xo.a.c0
  go_wp2_with fail
  clear c0 c1
  generalize w5.heap.size = p5 at *
  generalize w5.alloc (.cells #[.slice A5 n d5] 24) = W5 at *
  refine (compose_box Xr Xo (hT.below hB)).mono ?_; rintro e w6 ⟨A6, d6, R6, rfl, hr, _, hv, hm, hb⟩
  have Xx := boxR_new w6 A6 d6 hr hv hm
  replace Xr := Xr.nxt hb (.cells #[.slice A6 n d6] 24)
  replace Xo := Xo.nxt hb (.cells #[.slice A6 n d6] 24)
  replace Xc := Xc.nxt hb (.cells #[.slice A6 n d6] 24)
  replace Xd := Xd.nxt hb (.cells #[.slice A6 n d6] 24)
  replace Xi := Xi.nxt hb (.cells #[.slice A6 n d6] 24)
  replace hB := below_nxt hB hb (.cells #[.slice A6 n d6] 24)
  clear hr hv hm hb
  have c0 := Xr.a.c0
  go_wp2_with fail
  clear c0
  generalize w6.heap.size = p6 at *
  generalize w6.alloc (.cells #[.slice A6 n d6] 24) = W6 at *
  refine (refValid_yes A n ca R _ Xr.r Xr.v).mono ?_; rintro e w7 ⟨rfl, hb⟩
  replace Xr := Xr.next hb
  replace Xo := Xo.next hb
  replace Xc := Xc.next hb
  replace Xd := Xd.next hb
  replace Xi := Xi.next hb
  replace Xx := Xx.next hb
  replace hB := below_next hB hb
  clear hb
  have c0 := Xr.a.c0
  go_wp2_with fail
  clear c0
  refine (table_any A n ca R _ Xr.r Xr.v).mono ?_; rintro e w8 ⟨vT, BT, CT, rfl, hBT0, hb⟩
  replace Xr := Xr.next hb
  replace Xo := Xo.next hb
  replace Xc := Xc.next hb
  replace Xd := Xd.next hb
  replace Xi := Xi.next hb
  replace Xx := Xx.next hb
  replace hB := below_next hB hb
  have hBT := hBT0.mono (Nat.zero_le _)
  clear hb hBT0
  go_wp2_with fail
  have hcl : Hid (∀ u, Below w8.heap.size w8 u → Calls Tryd.prog 25 #[vT] u (TabOk u n (clo n (mat R)))) := fun u hu => refClosure_any vT n BT CT (mat R) u (hBT.below hu) hn
  have hin : Hid (∀ u, Below w8.heap.size w8 u → Calls Tryd.prog 26 #[vT] u (TabOk u n (inv (mat R)))) := fun u hu => refInverse_any vT n BT CT (mat R) u (hBT.below hu) hn
  have hs1 : Hid (∀ u v B' C', Below w8.heap.size w8 u → BTab u 0 v n n B' C' (clo n (mat R)) → Calls Tryd.prog 23 #[.agg #[.slice A3 n d3], .int .i64 0, .int .i64 0, v] u fun e w' => e = .returned (.bool true) ∧ Below u.heap.size u w') := fun u v B' C' hu h5 => is_ok A3 n d3 R3 v B' C' _ u (Xc.r.below hu) Xc.v h5 Xc.m
  have hs2 : Hid (∀ u v B' C', Below w8.heap.size w8 u → BTab u 0 v n n B' C' (inv (mat R)) → Calls Tryd.prog 23 #[.agg #[.slice A5 n d5], .int .i64 0, .int .i64 0, v] u fun e w' => e = .returned (.bool true) ∧ Below u.heap.size u w') := fun u v B' C' hu h5 => is_ok A5 n d5 R5 v B' C' _ u (Xi.r.below hu) Xi.v h5 Xi.m
  have hss : Hid (∀ w', Below w8.heap.size w8 w' → Below w8.heap.size w8 w' ∧ w'.cell? ⟨p3, 0, none⟩ = some (.slice A3 n d3) ∧ w'.cell? ⟨p5, 0, none⟩ = some (.slice A5 n d5)) := fun w' b => ⟨b, (Xc.next b).a.c0, (Xi.next b).a.c0⟩
  go_region_held3 (fun w' => Below w8.heap.size w8 w' ∧ w'.cell? ⟨p3, 0, none⟩ = some (.slice A3 n d3) ∧ w'.cell? ⟨p5, 0, none⟩ = some (.slice A5 n d5))
    (first
      | exact hss.out _ (Below.refl _ _).drew
      | exact hss.out _ bc24
      | exact hss.out _ bc23
      | exact hss.out _ bc22
      | exact hss.out _ bc21)
    (first
      | (go_at_call 25; (with_reducible refine (hcl.out _ (And.left (by assumption))).mono ?_); rintro e x21 ⟨v21, B21, C21, rfl, hB21, b21⟩; replace hB21 := hB21.mono (Nat.zero_le _); have bc21 := below_next (And.left (by assumption)) b21)
      | (go_at_call 23; (with_reducible refine (hs1.out _ _ _ _ bc21 hB21).mono ?_); rintro e x22 ⟨rfl, b22⟩; have bc22 := below_next bc21 b22)
      | (go_at_call 26; (with_reducible refine (hin.out _ (And.left (by assumption))).mono ?_); rintro e x23 ⟨v23, B23, C23, rfl, hB23, b23⟩; replace hB23 := hB23.mono (Nat.zero_le _); have bc23 := below_next (And.left (by assumption)) b23)
      | (go_at_call 23; (with_reducible refine (hs2.out _ _ _ _ bc23 hB23).mono ?_); rintro e x24 ⟨rfl, b24⟩; have bc24 := below_next bc23 b24))
  have bl := bc24
  replace Xr := Xr.next bl
  replace Xo := Xo.next bl
  replace Xc := Xc.next bl
  replace Xd := Xd.next bl
  replace Xi := Xi.next bl
  replace Xx := Xx.next bl
  replace hBT := hBT.below bl
  replace hB := below_next hB bl
  clear bl hss
  clear hcl hin hs1 hs2
  clear Xc Xi
  go_wp2_with fail
  have hacy : Acy n (mat R) := by
    obtain ⟨r, hr⟩ := Option.isSome_iff_exists.1 HO.out
    exact order_acy hr
  refine (refAcyclic_yes vT n BT CT (mat R) _ hBT hn hacy).mono ?_; rintro e w30 ⟨rfl, hb⟩
  replace Xr := Xr.next hb
  replace Xo := Xo.next hb
  replace Xd := Xd.next hb
  replace Xx := Xx.next hb
  replace hBT := hBT.below hb
  replace hB := below_next hB hb
  clear hb hacy
  go_wp2_with fail
  have hrd : Hid (∀ u, Below w30.heap.size w30 u → Calls Tryd.prog 28 #[vT] u (TabOk u n (red n (mat R)))) := fun u hu => refReduction_any vT n BT CT (mat R) u (hBT.below hu) hn
  have hs3 : Hid (∀ u v B' C', Below w30.heap.size w30 u → BTab u 0 v n n B' C' (red n (mat R)) → Calls Tryd.prog 23 #[.agg #[.slice A4 n d4], .int .i64 0, .int .i64 0, v] u fun e w' => e = .returned (.bool true) ∧ Below u.heap.size u w') := fun u v B' C' hu h5 => is_ok A4 n d4 R4 v B' C' _ u (Xd.r.below hu) Xd.v h5 Xd.m
  have hss : Hid (∀ w', Below w30.heap.size w30 w' → Below w30.heap.size w30 w' ∧ w'.cell? ⟨p4, 0, none⟩ = some (.slice A4 n d4)) := fun w' b => ⟨b, (Xd.next b).a.c0⟩
  go_region_held3 (fun w' => Below w30.heap.size w30 w' ∧ w'.cell? ⟨p4, 0, none⟩ = some (.slice A4 n d4))
    (first
      | exact hss.out _ (Below.refl _ _).drew
      | exact hss.out _ bc32
      | exact hss.out _ bc31)
    (first
      | (go_at_call 28; (with_reducible refine (hrd.out _ (And.left (by assumption))).mono ?_); rintro e x31 ⟨v31, B31, C31, rfl, hB31, b31⟩; replace hB31 := hB31.mono (Nat.zero_le _); have bc31 := below_next (And.left (by assumption)) b31)
      | (go_at_call 23; (with_reducible refine (hs3.out _ _ _ _ bc31 hB31).mono ?_); rintro e x32 ⟨rfl, b32⟩; have bc32 := below_next bc31 b32))
  have bl := bc32
  replace Xr := Xr.next bl
  replace Xo := Xo.next bl
  replace Xd := Xd.next bl
  replace Xx := Xx.next bl
  replace hBT := hBT.below bl
  replace hB := below_next hB bl
  clear bl hss
  clear hrd hs3 Xd
  have c0 := Xo.a.c0
  go_wp2_with fail
  clear c0
  refine (refValid_yes B n cb S _ Xo.r VY.out).mono ?_; rintro e w41 ⟨rfl, hb⟩
  replace Xr := Xr.next hb
  replace Xo := Xo.next hb
  replace Xx := Xx.next hb
  replace hBT := hBT.below hb
  replace hB := below_next hB hb
  clear hb
  have c0 := Xr.a.c0
  have c1 := Xo.a.c0
  go_wp2_with fail
  clear c0 c1
  have htb : Hid (∀ u, Below w41.heap.size w41 u → Calls Tryd.prog 24 #[.agg #[.slice B n cb]] u (TabOk u n (mat S))) := fun u hu => table_any B n cb S u (Xo.r.below hu) Xo.v
  have hco : Hid (∀ u v B' C', Below w41.heap.size w41 u → BTab u 0 v n n B' C' (mat S) → Calls Tryd.prog 29 #[vT, v] u (TabOk u n (comp n (mat R) (mat S)))) := fun u v B' C' hu h5 => refCompose_any vT v n BT CT B' C' (mat R) (mat S) u (hBT.below hu) h5 hn
  have hs4 : Hid (∀ u v B' C', Below w41.heap.size w41 u → BTab u 0 v n n B' C' (comp n (mat R) (mat S)) → Calls Tryd.prog 23 #[.agg #[.slice A6 n d6], .int .i64 0, .int .i64 0, v] u fun e w' => e = .returned (.bool true) ∧ Below u.heap.size u w') := fun u v B' C' hu h5 => is_ok A6 n d6 R6 v B' C' _ u (Xx.r.below hu) Xx.v h5 Xx.m
  have hss : Hid (∀ w', Below w41.heap.size w41 w' → Below w41.heap.size w41 w' ∧ w'.cell? ⟨p6, 0, none⟩ = some (.slice A6 n d6) ∧ w'.cell? ⟨(w.heap.size + 1), 0, none⟩ = some (.slice B n cb)) := fun w' b => ⟨b, (Xx.next b).a.c0, (Xo.next b).a.c0⟩
  go_region_held3 (fun w' => Below w41.heap.size w41 w' ∧ w'.cell? ⟨p6, 0, none⟩ = some (.slice A6 n d6) ∧ w'.cell? ⟨(w.heap.size + 1), 0, none⟩ = some (.slice B n cb))
    (first
      | exact hss.out _ (Below.refl _ _).drew
      | exact hss.out _ bc53
      | exact hss.out _ bc52
      | exact hss.out _ bc51)
    (first
      | (go_at_call 24; (with_reducible refine (htb.out _ (And.left (by assumption))).mono ?_); rintro e x51 ⟨v51, B51, C51, rfl, hB51, b51⟩; replace hB51 := hB51.mono (Nat.zero_le _); have bc51 := below_next (And.left (by assumption)) b51)
      | (go_at_call 29; (with_reducible refine (hco.out _ _ _ _ bc51 hB51).mono ?_); rintro e x52 ⟨v52, B52, C52, rfl, hB52, b52⟩; replace hB52 := hB52.mono (Nat.zero_le _); have bc52 := below_next bc51 b52)
      | (go_at_call 23; (with_reducible refine (hs4.out _ _ _ _ bc52 hB52).mono ?_); rintro e x53 ⟨rfl, b53⟩; have bc53 := below_next bc52 b53))
  have bl := bc53
  replace Xr := Xr.next bl
  replace Xo := Xo.next bl
  replace Xx := Xx.next bl
  replace hBT := hBT.below bl
  replace hB := below_next hB bl
  clear bl hss
  go_wp2_with fail
  go_ret
  exact ⟨rfl, hB⟩
end Go.Proofs.YtfjikeejifhnbaaDoor
