/- The law PosetBack: the walk. -/
import Derived.Test.YtakjdihhbndcnaaDoorAwk
namespace Go.Proofs.YtakjdihhbndcnaaDoor
open Go.RowKit Go.Sort
/- mathematics -/
theorem bk_acy {n : Nat} {T : Nat → Nat → Bool} (h : Acy n T) : Acy n (red n T) := fun i hi => (red_same h i hi i hi).trans (h i hi)
theorem bk_red {n : Nat} {T : Nat → Nat → Bool} {i j : Nat} (hi : i < n) (hj : j < n) (hr : red n (clo n T) i j = true) : T i j = true := by
  unfold red at hr
  rw [Bool.and_eq_true] at hr
  rcases clo_first hi hj hr.1 with h1 | ⟨m, hm, h1, h2⟩
  · exact h1
  · have h3 : comp n (clo n T) (clo n (clo n T)) i j = true := comp_iff.2 ⟨m, hm, clo_base h1, clo_base h2⟩
    rw [h3] at hr
    exact absurd hr.2 (by decide)
theorem pnone_any (w : World) : Calls Tryd.prog 17 #[.agg #[.slice none 0 0]] w fun e w' => e = .returned (.bool true) ∧ Below w.heap.size w w' := by
  have b0 := bnew w (.cells #[.slice none 0 0] 24)
  go_enter Tryd.func17, Tryd.ntmps17
  go_wp2
  go_ret
  exact ⟨rfl, b0⟩
structure Bk (w wr : World) (A B : Option Addr) (n m c d : Nat) : Prop where
  a : RelAt wr w.heap.size A n c
  b : RelAt wr (w.heap.size + 1) B m d
  f : Below w.heap.size w wr
theorem Bk.next {w wr w2 : World} {A B : Option Addr} {n m c d : Nat} (h : Bk w wr A B n m c d) (k : Below wr.heap.size wr w2) : Bk w w2 A B n m c d := ⟨h.a.below k, h.b.below k, below_next h.f k⟩
theorem bk_new (w : World) (A B : Option Addr) (n m c d : Nat) : Bk w ((w.alloc (.cells #[.slice A n c] 24)).alloc (.cells #[.slice B m d] 24)) A B n m c d := by
  have r1 := relAt_new (w.alloc (.cells #[.slice A n c] 24)) B m d
  rw [show (w.alloc (.cells #[.slice A n c] 24)).heap.size = w.heap.size + 1 by simp] at r1
  exact ⟨(relAt_new w A n c).alloc _, r1, ((Below.refl _ _).alloc (Nat.le_refl _) _).alloc (by simp) _⟩
set_option maxRecDepth 100000 in
set_option maxHeartbeats 8000000 in
theorem bk_law (A B : Option Addr) (n m c d : Nat) (R S : Nat → RowD) (w : World) (ha : Rel w A n R) (hb : Rel w B m S) (hT : Tab w) :
    Calls Tryd.prog 7 #[.agg #[.slice A n c], .agg #[.slice B m d]] w fun e w' => e = .returned (.bool true) ∧ Below w.heap.size w w' := by
  have HR := Lib.hid ha
  have HS := Lib.hid hb
  clear ha hb
  have hT0 := bk_new w A B n m c d
  go_enter Tryd.func7, Tryd.ntmps7
  go_upto_region 1 with fail
  generalize (w.alloc (.cells #[.slice A n c] 24)).alloc (.cells #[.slice B m d] 24) = W at *
  go_wp2_with fail
  refine (awake_any W (hT.below hT0.f)).mono ?_; rintro e w1 ⟨rfl, b1⟩
  have hT1 := hT0.next b1
  clear hT0 b1
  obtain ⟨v1, hv1⟩ : ∃ v : Bool, v = true ↔ Few n R := ⟨@decide _ (Classical.propDecidable _), @decide_eq_true_iff _ (Classical.propDecidable _)⟩
  have HF1 := Lib.hid (few_any A n c R v1 w1 (HR.out.below hT1.f) hv1)
  have HV1 := Lib.hid hv1
  clear hv1
  have c0 := hT1.a.c0
  go_wp2_with fail
  refine HF1.out.mono ?_; rintro e w2 ⟨rfl, b2⟩
  have hT2 := hT1.next b2
  clear hT1 b2 c0 HF1
  cases v1 with
  | false =>
    go_wp2_with fail
    refine (awake_any w2 (hT.below hT2.f)).mono ?_; rintro e w3 ⟨rfl, b3⟩
    go_wp2_with fail
    go_ret
    exact ⟨rfl, below_next hT2.f b3⟩
  | true =>
    have hn := (HV1.out.1 rfl).1
    obtain ⟨v2, hv2⟩ : ∃ v : Bool, v = true ↔ Few m S := ⟨@decide _ (Classical.propDecidable _), @decide_eq_true_iff _ (Classical.propDecidable _)⟩
    have HF2 := Lib.hid (few_any B m d S v2 w2 (HS.out.below hT2.f) hv2)
    have HV2 := Lib.hid hv2
    clear hv2 HV1
    have c0 := hT2.b.c0
    go_wp2_with fail
    refine HF2.out.mono ?_; rintro e w3 ⟨rfl, b3⟩
    have hT3 := hT2.next b3
    clear hT2 b3 c0 HF2
    cases v2 with
    | false =>
      go_wp2_with fail
      refine (awake_any w3 (hT.below hT3.f)).mono ?_; rintro e w4 ⟨rfl, b4⟩
      go_wp2_with fail
      go_ret
      exact ⟨rfl, below_next hT3.f b4⟩
    | true =>
      have hm := (HV2.out.1 rfl).1
      have HC := Lib.hid (covers_any A n c R w3 (HR.out.below hT3.f) (by omega) (hT.below hT3.f))
      unfold CovEnd at HC
      clear HV2
      have c0 := hT3.a.c0
      go_wp2_with fail
      clear c0
      refine HC.out.mono ?_; rintro e w4 (⟨hP, hc⟩ | ⟨hno, rfl, b4⟩)
      · obtain ⟨Ac, cc, Rc, rfl, hRc, _, hVc, hMc, b4⟩ := hc
        have bx := bnew w4 (.cells #[.slice Ac n cc] 24)
        have rc := relAt_new w4 Ac n cc
        have hT4 := (hT3.next b4).next bx
        have HRc := Lib.hid (hRc.below bx)
        have HVc := Lib.hid hVc
        have HMc := Lib.hid hMc
        have HP := Lib.hid hP
        clear hRc hVc hMc hP b4 bx hT3 HC
        go_upto_region 4 with fail
        generalize w4.heap.size = pc at *
        generalize w4.alloc (.cells #[.slice Ac n cc] 24) = w5 at *
        have HFc := Lib.hid (from_any Ac n cc Rc w5 HRc.out (by omega) (hT.below hT4.f))
        unfold FromEnd at HFc
        have c1 := rc.c0
        go_wp2_with fail
        clear c1
        have hacy : Acy n (mat Rc) := fun i hi => by rw [clo_congr HMc.out i hi i hi]; exact bk_acy (pord_acy HP.out.2) i hi
        refine HFc.out.mono ?_; rintro e w6 (⟨_, _, hq⟩ | ⟨_, hno, _⟩ | ⟨hno, _⟩)
        rotate_left
        · exact absurd hacy hno
        · exact absurd HVc.out hno
        obtain ⟨Aq, cq, Rq, rfl, hRq, _, hVq, hMq, b6⟩ := hq
        have bx := bnew w6 (.cells #[.slice Aq n cq] 24)
        have rq := relAt_new w6 Aq n cq
        have hT6 := (hT4.next b6).next bx
        have hsame : ∀ i, i < n → ∀ j, j < n → mat R i j = mat Rq i j := fun i hi j hj => by
          rw [hMq i hi j hj, clo_congr HMc.out i hi j hj, red_same (pord_acy HP.out.2) i hi j hj, pord_clo HP.out.2 hi hj]
        have HSm := Lib.hid (psame_yes A Aq n c cq R Rq (w6.alloc (.cells #[.slice Aq n cq] 24)) (HR.out.below hT6.f) (hRq.below bx) HP.out.1 hVq hsame)
        clear hRq hVq hMq b6 bx hT4 rc HRc HVc HMc hacy hsame HFc
        go_upto_region 6 with fail
        generalize w6.heap.size = pq at *
        generalize w6.alloc (.cells #[.slice Aq n cq] 24) = w7 at *
        have c0 := hT6.a.c0
        have c1 := rq.c0
        go_wp2_with fail
        refine HSm.out.mono ?_; rintro e w8 ⟨rfl, b8⟩
        have hT8 := hT6.next b8
        clear hT6 b8 c0 c1 rq HSm
        have c0 := hT8.a.c0
        have HVd := Lib.hid (pvalid_any A n c R true w8 (HR.out.below hT8.f) (by omega) (hT.below hT8.f) ⟨fun _ => HP.out, fun _ => rfl⟩)
        go_wp2_with fail
        clear c0
        refine HVd.out.mono ?_; rintro e wt ⟨rfl, b9⟩
        have hT1 := hT8.next b9
        clear hT8 b9 HVd HP
        have HFr := Lib.hid (from_any B m d S wt (HS.out.below hT1.f) (by omega) (hT.below hT1.f))
        unfold FromEnd at HFr
        have c1 := hT1.b.c0
        go_wp2_with fail
        clear c1
        refine HFr.out.mono ?_; rintro e wu (⟨hvS, haS, hq⟩ | ⟨_, _, rfl, bu⟩ | ⟨_, rfl, bu⟩)
        · obtain ⟨Aq, cq, Rq, rfl, hRq, _, hVq, hMq, bu⟩ := hq
          have bx := bnew wu (.cells #[.slice Aq m cq] 24)
          have rq := relAt_new wu Aq m cq
          have hT2 := (hT1.next bu).next bx
          have HRq := Lib.hid (hRq.below bx)
          have hpq : POrd m Rq := ⟨hVq, pok_congr hMq (clo_ord haS)⟩
          have HPq := Lib.hid hpq
          have HMq := Lib.hid hMq
          have HVS := Lib.hid hvS
          clear hvS haS hRq hVq hMq bu bx hpq hT1 HFr
          go_upto_region 11 with fail
          generalize hqb : wu.heap.size = pq at *
          generalize wu.alloc (.cells #[.slice Aq m cq] 24) = wv at *
          have c2 := rq.c0
          have HCq := Lib.hid (covers_any Aq m cq Rq wv HRq.out (by omega) (hT.below hT2.f))
          unfold CovEnd at HCq
          go_wp2_with fail
          clear c2
          refine HCq.out.mono ?_; rintro e wx (⟨_, hc⟩ | ⟨hno, _⟩)
          rotate_left
          · exact absurd HPq.out hno
          obtain ⟨Ac, cc, Rc, rfl, hRc, _, hVc, hMc, bu⟩ := hc
          have bx := bnew wx (.cells #[.slice Ac m cc] 24)
          have rc := relAt_new wx Ac m cc
          have hT3 := (hT2.next bu).next bx
          have rq3 := (rq.below bu).below bx
          have HRc := Lib.hid (hRc.below bx)
          have HRq3 := Lib.hid ((HRq.out.below bu).below bx)
          have HVc := Lib.hid hVc
          have HMc := Lib.hid hMc
          clear hRc hVc hMc bu bx hT2 rq HRq HCq hqb
          go_upto_region 14 with fail
          generalize wx.heap.size = pc at *
          generalize wx.alloc (.cells #[.slice Ac m cc] 24) = wy at *
          have c1 := rc.c0
          have c2 := hT3.b.c0
          have c3 := rq3.c0
          have qm : ((m : Int) != (m : Int)) = false := by simp
          go_wp2_with fail
          clear c1 c2 c3
          go_loopw [91] (fun i wr => ∃ K : Nat, K ≤ m ∧ i = .int .i64 K ∧ Below wy.heap.size wy wr) (fun i _ => m - (intOf i).toNat)
          case atStart => exact ⟨0, Nat.zero_le _, rfl, Below.refl _ _⟩
          case round =>
            obtain ⟨K, hK, rfl, hB⟩ := hrel
            have hT4 := hT3.next hB
            by_cases hlt : K < m
            · have hwrap : IntKind.i64.wrap ((K : Int) + 1) = (K : Int) + 1 := IntWalk.i64_in _ (by omega)
              obtain ⟨b1, o1, rfl, _, h1⟩ := (HRc.out.below hB) (by omega)
              obtain ⟨b2, o2, rfl, _, h2⟩ := (HS.out.below hT4.f) (by omega)
              obtain ⟨b3, o3, rfl, _, h3⟩ := (HRq3.out.below hB) (by omega)
              obtain ⟨x0, x1, xw⟩ := h1 K hlt
              obtain ⟨y0, y1, yw⟩ := h2 K hlt
              obtain ⟨z0, z1, zw⟩ := h3 K hlt
              have vx := HVc.out.2 K hlt
              have vy := HVS.out.2 K hlt
              have vz := HPq.out.1.2 K hlt
              have ly : (S K).l = (Rc K).l := (HVS.out.l hlt).trans (HVc.out.l hlt).symm
              have lz : (Rq K).l = (Rc K).l := (HPq.out.1.l hlt).trans (HVc.out.l hlt).symm
              have vx2 := vx.2
              have vy2 := vy.2
              have vz2 := vz.2
              rw [vx.1] at x0
              rw [vy.1] at y0
              rw [vz.1] at z0
              rw [ly] at y1 yw vy2
              rw [lz] at z1 zw vz2
              have s1 : Sub (Rc K).f (S K).f (Rc K).l := (psub vx2).2 fun k hk hb => bk_red (T := mat S) hlt hk (by
                have h4 : red m (mat Rq) K k = true := (HMc.out K hlt k hk).symm.trans hb
                rwa [red_congr HMq.out K hlt k hk] at h4)
              have s2 : Sub (S K).f (Rq K).f (Rc K).l := (psub vy2).2 fun k hk hb => (HMq.out K hlt k hk).trans (clo_base hb)
              have k0 := cell_regrown (hT4.b.c0)
              have k1 := cell_regrown ((rc.below hB).c0)
              have k2 := cell_regrown ((rq3.below hB).c0)
              have k3 := cell_regrown x0
              have k4 := cell_regrown x1
              have k5 := cell_regrown y0
              have k6 := cell_regrown y1
              have k7 := cell_regrown z0
              have k8 := cell_regrown z1
              have CA := Lib.hid (fun dd os => Calls.regrown_of (refSubset_dec m (Rc K).A (S K).A (Rc K).l (Rc K).c (S K).c (Rc K).f (S K).f vx2 vy2 true ⟨fun _ => s1, fun _ => rfl⟩ (grow (redrawn wr dd) os) (xw.below (below_regrown wr dd os)) (yw.below (below_regrown wr dd os))))
              have CB := Lib.hid (fun dd os => Calls.regrown_of (refSubset_dec m (S K).A (Rq K).A (Rc K).l (S K).c (Rq K).c (S K).f (Rq K).f vy2 vz2 true ⟨fun _ => s2, fun _ => rfl⟩ (grow (redrawn wr dd) os) (yw.below (below_regrown wr dd os)) (zw.below (below_regrown wr dd os))))
              clear h1 h2 h3 vx vy vz vx2 vy2 vz2 s1 s2 ly lz xw yw zw x0 x1 y0 y1 z0 z1
              generalize (Rc K).A = A1 at *
              generalize (S K).A = A2 at *
              generalize (Rq K).A = A3 at *
              generalize (Rc K).l = l1 at *
              generalize (Rc K).c = e1 at *
              generalize (S K).c = e2 at *
              generalize (Rq K).c = e3 at *
              go_upto_region 19 with fail
              refine wp_region_quiet_below (by kernel_rfl) (by kernel_rfl) ?_
              repeat (first | go_big_quiet_step (first | with_reducible exact CA.out _ _ | with_reducible exact CB.out _ _) | quiet_step (first | with_reducible exact CA.out _ _ | with_reducible exact CB.out _ _))
              refine wpQuiet_nil ?_
              intro _ hw'
              obtain ⟨⟨dq, osq⟩, hw''⟩ := hw'
              subst hw''
              clear k0 k1 k2 k3 k4 k5 k6 k7 k8 CA CB
              have B7 := below_next hB (below_regrown wr dq osq)
              go_wp2_with fail
              go_roundw
              case rel => exact ⟨K + 1, hlt, by go_num, B7⟩
              case measure => simp [intOf]; omega
            · go_wp2_with fail
              go_ret
              exact ⟨rfl, hT4.f⟩
        all_goals
          have bx := bnew wu (.cells #[.slice none 0 0] 24)
          have rq := relAt_new wu none 0 0
          have hT2 := (hT1.next bu).next bx
          clear HFr hT1 bu bx
          go_upto_region 11 with fail
          generalize wu.alloc (.cells #[.slice none 0 0] 24) = wv at *
          have c1 := rq.c0
          go_wp2_with fail
          refine (pnone_any wv).mono ?_; rintro e wx ⟨rfl, bu⟩
          go_wp2_with fail
          go_ret
          exact ⟨rfl, below_next hT2.f bu⟩
      · have bx := bnew w4 (.cells #[.slice none 0 0] 24)
        have hT4 := (hT3.next b4).next bx
        have HVd := Lib.hid (pvalid_any A n c R false (w4.alloc (.cells #[.slice none 0 0] 24)) (HR.out.below hT4.f) (by omega) (hT.below hT4.f) ⟨(fun h => by cases h), fun h => absurd h hno⟩)
        clear hno HC hT3 b4 bx
        go_upto_region 4 with fail
        generalize w4.alloc (.cells #[.slice none 0 0] 24) = w5 at *
        have c0 := hT4.a.c0
        go_wp2_with fail
        clear c0
        refine HVd.out.mono ?_; rintro e wt ⟨rfl, b9⟩
        have hT1 := hT4.next b9
        clear hT4 b9 HVd
        have HFr := Lib.hid (from_any B m d S wt (HS.out.below hT1.f) (by omega) (hT.below hT1.f))
        unfold FromEnd at HFr
        have c1 := hT1.b.c0
        go_wp2_with fail
        clear c1
        refine HFr.out.mono ?_; rintro e wu (⟨hvS, haS, hq⟩ | ⟨_, _, rfl, bu⟩ | ⟨_, rfl, bu⟩)
        · obtain ⟨Aq, cq, Rq, rfl, hRq, _, hVq, hMq, bu⟩ := hq
          have bx := bnew wu (.cells #[.slice Aq m cq] 24)
          have rq := relAt_new wu Aq m cq
          have hT2 := (hT1.next bu).next bx
          have HRq := Lib.hid (hRq.below bx)
          have hpq : POrd m Rq := ⟨hVq, pok_congr hMq (clo_ord haS)⟩
          have HPq := Lib.hid hpq
          have HMq := Lib.hid hMq
          have HVS := Lib.hid hvS
          clear hvS haS hRq hVq hMq bu bx hpq hT1 HFr
          go_upto_region 11 with fail
          generalize hqb : wu.heap.size = pq at *
          generalize wu.alloc (.cells #[.slice Aq m cq] 24) = wv at *
          have c2 := rq.c0
          have HCq := Lib.hid (covers_any Aq m cq Rq wv HRq.out (by omega) (hT.below hT2.f))
          unfold CovEnd at HCq
          go_wp2_with fail
          clear c2
          refine HCq.out.mono ?_; rintro e wx (⟨_, hc⟩ | ⟨hno, _⟩)
          rotate_left
          · exact absurd HPq.out hno
          obtain ⟨Ac, cc, Rc, rfl, hRc, _, hVc, hMc, bu⟩ := hc
          have bx := bnew wx (.cells #[.slice Ac m cc] 24)
          have rc := relAt_new wx Ac m cc
          have hT3 := (hT2.next bu).next bx
          have rq3 := (rq.below bu).below bx
          have HRc := Lib.hid (hRc.below bx)
          have HRq3 := Lib.hid ((HRq.out.below bu).below bx)
          have HVc := Lib.hid hVc
          have HMc := Lib.hid hMc
          clear hRc hVc hMc bu bx hT2 rq HRq HCq hqb
          go_upto_region 14 with fail
          generalize wx.heap.size = pc at *
          generalize wx.alloc (.cells #[.slice Ac m cc] 24) = wy at *
          have c1 := rc.c0
          have c2 := hT3.b.c0
          have c3 := rq3.c0
          have qm : ((m : Int) != (m : Int)) = false := by simp
          go_wp2_with fail
          clear c1 c2 c3
          go_loopw [91] (fun i wr => ∃ K : Nat, K ≤ m ∧ i = .int .i64 K ∧ Below wy.heap.size wy wr) (fun i _ => m - (intOf i).toNat)
          case atStart => exact ⟨0, Nat.zero_le _, rfl, Below.refl _ _⟩
          case round =>
            obtain ⟨K, hK, rfl, hB⟩ := hrel
            have hT4 := hT3.next hB
            by_cases hlt : K < m
            · have hwrap : IntKind.i64.wrap ((K : Int) + 1) = (K : Int) + 1 := IntWalk.i64_in _ (by omega)
              obtain ⟨b1, o1, rfl, _, h1⟩ := (HRc.out.below hB) (by omega)
              obtain ⟨b2, o2, rfl, _, h2⟩ := (HS.out.below hT4.f) (by omega)
              obtain ⟨b3, o3, rfl, _, h3⟩ := (HRq3.out.below hB) (by omega)
              obtain ⟨x0, x1, xw⟩ := h1 K hlt
              obtain ⟨y0, y1, yw⟩ := h2 K hlt
              obtain ⟨z0, z1, zw⟩ := h3 K hlt
              have vx := HVc.out.2 K hlt
              have vy := HVS.out.2 K hlt
              have vz := HPq.out.1.2 K hlt
              have ly : (S K).l = (Rc K).l := (HVS.out.l hlt).trans (HVc.out.l hlt).symm
              have lz : (Rq K).l = (Rc K).l := (HPq.out.1.l hlt).trans (HVc.out.l hlt).symm
              have vx2 := vx.2
              have vy2 := vy.2
              have vz2 := vz.2
              rw [vx.1] at x0
              rw [vy.1] at y0
              rw [vz.1] at z0
              rw [ly] at y1 yw vy2
              rw [lz] at z1 zw vz2
              have s1 : Sub (Rc K).f (S K).f (Rc K).l := (psub vx2).2 fun k hk hb => bk_red (T := mat S) hlt hk (by
                have h4 : red m (mat Rq) K k = true := (HMc.out K hlt k hk).symm.trans hb
                rwa [red_congr HMq.out K hlt k hk] at h4)
              have s2 : Sub (S K).f (Rq K).f (Rc K).l := (psub vy2).2 fun k hk hb => (HMq.out K hlt k hk).trans (clo_base hb)
              have k0 := cell_regrown (hT4.b.c0)
              have k1 := cell_regrown ((rc.below hB).c0)
              have k2 := cell_regrown ((rq3.below hB).c0)
              have k3 := cell_regrown x0
              have k4 := cell_regrown x1
              have k5 := cell_regrown y0
              have k6 := cell_regrown y1
              have k7 := cell_regrown z0
              have k8 := cell_regrown z1
              have CA := Lib.hid (fun dd os => Calls.regrown_of (refSubset_dec m (Rc K).A (S K).A (Rc K).l (Rc K).c (S K).c (Rc K).f (S K).f vx2 vy2 true ⟨fun _ => s1, fun _ => rfl⟩ (grow (redrawn wr dd) os) (xw.below (below_regrown wr dd os)) (yw.below (below_regrown wr dd os))))
              have CB := Lib.hid (fun dd os => Calls.regrown_of (refSubset_dec m (S K).A (Rq K).A (Rc K).l (S K).c (Rq K).c (S K).f (Rq K).f vy2 vz2 true ⟨fun _ => s2, fun _ => rfl⟩ (grow (redrawn wr dd) os) (yw.below (below_regrown wr dd os)) (zw.below (below_regrown wr dd os))))
              clear h1 h2 h3 vx vy vz vx2 vy2 vz2 s1 s2 ly lz xw yw zw x0 x1 y0 y1 z0 z1
              generalize (Rc K).A = A1 at *
              generalize (S K).A = A2 at *
              generalize (Rq K).A = A3 at *
              generalize (Rc K).l = l1 at *
              generalize (Rc K).c = e1 at *
              generalize (S K).c = e2 at *
              generalize (Rq K).c = e3 at *
              go_upto_region 19 with fail
              refine wp_region_quiet_below (by kernel_rfl) (by kernel_rfl) ?_
              repeat (first | go_big_quiet_step (first | with_reducible exact CA.out _ _ | with_reducible exact CB.out _ _) | quiet_step (first | with_reducible exact CA.out _ _ | with_reducible exact CB.out _ _))
              refine wpQuiet_nil ?_
              intro _ hw'
              obtain ⟨⟨dq, osq⟩, hw''⟩ := hw'
              subst hw''
              clear k0 k1 k2 k3 k4 k5 k6 k7 k8 CA CB
              have B7 := below_next hB (below_regrown wr dq osq)
              go_wp2_with fail
              go_roundw
              case rel => exact ⟨K + 1, hlt, by go_num, B7⟩
              case measure => simp [intOf]; omega
            · go_wp2_with fail
              go_ret
              exact ⟨rfl, hT4.f⟩
        all_goals
          have bx := bnew wu (.cells #[.slice none 0 0] 24)
          have rq := relAt_new wu none 0 0
          have hT2 := (hT1.next bu).next bx
          clear HFr hT1 bu bx
          go_upto_region 11 with fail
          generalize wu.alloc (.cells #[.slice none 0 0] 24) = wv at *
          have c1 := rq.c0
          go_wp2_with fail
          refine (pnone_any wv).mono ?_; rintro e wx ⟨rfl, bu⟩
          go_wp2_with fail
          go_ret
          exact ⟨rfl, below_next hT2.f bu⟩
end Go.Proofs.YtakjdihhbndcnaaDoor
