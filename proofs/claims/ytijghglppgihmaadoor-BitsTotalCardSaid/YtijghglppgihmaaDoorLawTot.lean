/- BitsTotal: the law's own text, walked: it returns true for every three sets. -/
import Derived.Test.YtijghglppgihmaaDoorLaw3
namespace Go.Proofs.YtijghglppgihmaaDoor
open Go.RowKit Go.Sort
set_option maxRecDepth 100000 in
set_option maxHeartbeats 8000000 in
theorem total_big (N M K : Int) (A B C : Option Addr) (la ca lb cb lc cc : Nat) (w : World) (hT : Tab w) (hbig : Big (pick3 la lb lc) 3) :
    Calls Tryd.prog 9 #[.agg #[.int .i64 N, .slice A la ca], .agg #[.int .i64 M, .slice B lb cb], .agg #[.int .i64 K, .slice C lc cc]] w fun e w' => e = .returned (.bool true) ∧ Below w.heap.size w w' := by
  obtain ⟨J, hz, hJ⟩ := hbig
  have HZ := Lib.hid hz; clear hz
  have HJ := Lib.hid hJ; clear hJ
  have hT0 := tri_new w N M K A B C la ca lb cb lc cc
  go_enter Tryd.func9, Tryd.ntmps9
  go_wp2_with fail
  refine (awake_any _ (hT.below hT0.b)).mono ?_; rintro e w1 ⟨rfl, b1⟩
  have hT1 := hT0.next b1
  clear hT0 b1
  have c0 := hT1.s.c0
  have c1 := hT1.s.c1
  have d0 := hT1.t.c0
  have d1 := hT1.t.c1
  have e0 := hT1.u.c0
  have e1 := hT1.u.c1
  go_wp2_with fail
  clear c0 c1 d0 d1 e0 e1
  refine (few_no w1.heap.size 3 _ _ _ _ J _ (sets_three w1 N M K A B C la ca lb cb lc cc) (by decide) HZ.out HJ.out).mono ?_; rintro e w2 ⟨rfl, b2⟩
  have hT2 := hT1.next (((Below.refl _ _).alloc (Nat.le_refl _) _).trans (b2.mono (by simp)))
  clear hT1 b2
  go_wp2_with fail
  refine (awake_any _ (hT.below hT2.b)).mono ?_; rintro e w3 ⟨rfl, b3⟩
  go_wp2_with fail
  go_ret
  exact ⟨rfl, (hT2.next b3).b⟩
set_option maxRecDepth 100000 in
set_option maxHeartbeats 8000000 in
theorem total_no1 (N M K : Int) (A B C : Option Addr) (la ca lb cb lc cc : Nat) (f g h : Nat → Nat) (w : World) (ha : Wds w A la f) (hb : Wds w B lb g) (_hc : Wds w C lc h) (hT : Tab w) (hfew : ∀ k, k < 3 → pick3 la lb lc k ≤ 20) (h1 : ¬ (Vld N la f ∧ Vld M lb g ∧ N = M)) :
    Calls Tryd.prog 9 #[.agg #[.int .i64 N, .slice A la ca], .agg #[.int .i64 M, .slice B lb cb], .agg #[.int .i64 K, .slice C lc cc]] w fun e w' => e = .returned (.bool true) ∧ Below w.heap.size w w' := by
  have HA := Lib.hid ha; clear ha
  have HB := Lib.hid hb; clear hb
  have HF := Lib.hid hfew; clear hfew
  have H1 := Lib.hid h1; clear h1 _hc
  have hT0 := tri_new w N M K A B C la ca lb cb lc cc
  go_enter Tryd.func9, Tryd.ntmps9
  go_wp2_with fail
  refine (awake_any _ (hT.below hT0.b)).mono ?_; rintro e w1 ⟨rfl, b1⟩
  have hT1 := hT0.next b1
  clear hT0 b1
  have c0 := hT1.s.c0
  have c1 := hT1.s.c1
  have d0 := hT1.t.c0
  have d1 := hT1.t.c1
  have e0 := hT1.u.c0
  have e1 := hT1.u.c1
  go_wp2_with fail
  clear c0 c1 d0 d1 e0 e1
  refine (few_yes w1.heap.size 3 _ _ _ _ _ (sets_three w1 N M K A B C la ca lb cb lc cc) (by decide) HF.out).mono ?_; rintro e w2 ⟨rfl, b2⟩
  have hT2 := hT1.next (((Below.refl _ _).alloc (Nat.le_refl _) _).trans (b2.mono (by simp)))
  clear hT1 b2
  have c0 := hT2.s.c0
  have c1 := hT2.s.c1
  have d0 := hT2.t.c0
  have d1 := hT2.t.c1
  have e0 := hT2.u.c0
  have e1 := hT2.u.c1
  go_wp2_with fail
  clear c0 c1 d0 d1 e0 e1
  refine (refCmp_no _ _ _ _ _ _ _ _ _ _ _ (HA.out.below hT2.b) (HB.out.below hT2.b) H1.out).mono ?_; rintro e w3 ⟨rfl, b3⟩
  have hT3 := hT2.next b3
  clear hT2 b3
  go_wp2_with fail
  refine (awake_any _ (hT.below hT3.b)).mono ?_; rintro e w4 ⟨rfl, b4⟩
  go_wp2_with fail
  go_ret
  exact ⟨rfl, (hT3.next b4).b⟩
set_option maxRecDepth 100000 in
set_option maxHeartbeats 8000000 in
theorem total_no2 (N M K : Int) (A B C : Option Addr) (la ca lb cb lc cc : Nat) (f g h : Nat → Nat) (w : World) (ha : Wds w A la f) (hb : Wds w B lb g) (hc : Wds w C lc h) (hT : Tab w) (hfew : ∀ k, k < 3 → pick3 la lb lc k ≤ 20) (va : Vld N la f) (vb : Vld M lb g) (he : N = M) (h2 : ¬ (Vld M lb g ∧ Vld K lc h ∧ M = K)) :
    Calls Tryd.prog 9 #[.agg #[.int .i64 N, .slice A la ca], .agg #[.int .i64 M, .slice B lb cb], .agg #[.int .i64 K, .slice C lc cc]] w fun e w' => e = .returned (.bool true) ∧ Below w.heap.size w w' := by
  subst he
  have HA := Lib.hid ha; clear ha
  have HB := Lib.hid hb; clear hb
  have HC := Lib.hid hc; clear hc
  have VA := Lib.hid va; clear va
  have VB := Lib.hid vb; clear vb
  have HF := Lib.hid hfew; clear hfew
  have H2 := Lib.hid h2; clear h2
  have hT0 := tri_new w N N K A B C la ca lb cb lc cc
  go_enter Tryd.func9, Tryd.ntmps9
  go_wp2_with fail
  refine (awake_any _ (hT.below hT0.b)).mono ?_; rintro e w1 ⟨rfl, b1⟩
  have hT1 := hT0.next b1
  clear hT0 b1
  have c0 := hT1.s.c0
  have c1 := hT1.s.c1
  have d0 := hT1.t.c0
  have d1 := hT1.t.c1
  have e0 := hT1.u.c0
  have e1 := hT1.u.c1
  go_wp2_with fail
  clear c0 c1 d0 d1 e0 e1
  refine (few_yes w1.heap.size 3 _ _ _ _ _ (sets_three w1 N N K A B C la ca lb cb lc cc) (by decide) HF.out).mono ?_; rintro e w2 ⟨rfl, b2⟩
  have hT2 := hT1.next (((Below.refl _ _).alloc (Nat.le_refl _) _).trans (b2.mono (by simp)))
  clear hT1 b2
  have c0 := hT2.s.c0
  have c1 := hT2.s.c1
  have d0 := hT2.t.c0
  have d1 := hT2.t.c1
  have e0 := hT2.u.c0
  have e1 := hT2.u.c1
  go_wp2_with fail
  clear c0 c1 d0 d1 e0 e1
  refine (refCmp_yes _ _ _ _ _ _ _ _ _ _ (HA.out.below hT2.b) (HB.out.below hT2.b) VA.out VB.out).mono ?_; rintro e w3 ⟨rfl, b3⟩
  have hT3 := hT2.next b3
  clear hT2 b3
  have c0 := hT3.s.c0
  have c1 := hT3.s.c1
  have d0 := hT3.t.c0
  have d1 := hT3.t.c1
  have e0 := hT3.u.c0
  have e1 := hT3.u.c1
  go_wp2_with fail
  clear c0 c1 d0 d1 e0 e1
  refine (refCmp_no _ _ _ _ _ _ _ _ _ _ _ (HB.out.below hT3.b) (HC.out.below hT3.b) H2.out).mono ?_; rintro e w4 ⟨rfl, b4⟩
  have hT4 := hT3.next b4
  clear hT3 b4
  go_wp2_with fail
  refine (awake_any _ (hT.below hT4.b)).mono ?_; rintro e w5 ⟨rfl, b5⟩
  go_wp2_with fail
  go_ret
  exact ⟨rfl, (hT4.next b5).b⟩
set_option maxRecDepth 100000 in
set_option maxHeartbeats 8000000 in
theorem total_p (n : Nat) (A B C : Option Addr) (m ca cb cc : Nat) (f g h : Nat → Nat) (s t : Int) (w : World) (ha : Wds w A m f) (hb : Wds w B m g) (hc : Wds w C m h) (hT : Tab w) (hfew : ∀ k, k < 3 → pick3 m m m k ≤ 20) (va : Vld n m f) (vb : Vld n m g) (vc : Vld n m h) (hab : CmpB f g (64 * m) (1)) (hbc : CmpB g h (64 * m) s) (hac : CmpB f h (64 * m) t) (hv : false = true ↔ Sub f g m) :
    Calls Tryd.prog 9 #[.agg #[.int .i64 n, .slice A m ca], .agg #[.int .i64 n, .slice B m cb], .agg #[.int .i64 n, .slice C m cc]] w fun e w' => e = .returned (.bool true) ∧ Below w.heap.size w w' := by
  have hm9' : m ≤ 1000 := by have h1 := va.2.1; have h2 := va.2.2.1; simp only [Int.toNat_natCast] at h2; omega
  have hba : CmpB g f (64 * m) (-1) := cmpB_symm hab
  have DAB := Lib.hid (fun (w : World) (h1 : Wds w A m f) (h2 : Wds w B m g) => compare_any n A B m ca cb f g (1) w h1 h2 va vb (cmpW_of ha.1 hb.1 hab))
  have DBA := Lib.hid (fun (w : World) (h1 : Wds w B m g) (h2 : Wds w A m f) => compare_any n B A m cb ca g f (-1) w h1 h2 vb va (cmpW_of hb.1 ha.1 hba))
  have DBC := Lib.hid (fun (w : World) (h1 : Wds w B m g) (h2 : Wds w C m h) => compare_any n B C m cb cc g h s w h1 h2 vb vc (cmpW_of hb.1 hc.1 hbc))
  have DAC := Lib.hid (fun (w : World) (h1 : Wds w A m f) (h2 : Wds w C m h) => compare_any n A C m ca cc f h t w h1 h2 va vc (cmpW_of ha.1 hc.1 hac))
  have SAB := Lib.hid (same_of n m f g false hm9' ⟨(fun h => by cases h), fun h => absurd ((cmpB_zero hab).2 (bt_congr h)) (by decide)⟩ A B ca cb)
  have SUB := Lib.hid (fun (gu : Nat) => same_of n m (comb orW f g) g false hm9' (hv.trans (or_same ha.1 hb.1).symm) (some ⟨gu, 0, none⟩) B m cb)
  have IAU := Lib.hid (fun (gu : Nat) (w : World) (h1 : Wds w A m f) (h2 : Wds w (some ⟨gu, 0, none⟩) m (comb orW f g)) => subset_any n A (some ⟨gu, 0, none⟩) m ca m f (comb orW f g) m true w h1 h2 va (vld_or va vb) (Nat.le_refl _) ((sub_words ha.1 (u64_or ha.1 hb.1)).1 (sub_or f g m)) (Or.inl ⟨rfl, rfl⟩))
  have IAB := Lib.hid (subset_lit n A B m ca cb f g false hv ha.1 hb.1 va vb)
  have UU := Lib.hid (u64_or ha.1 hb.1)
  clear hab hba hbc hac hv
  have hm9 : m ≤ 9 := by have h1 := va.2.1; have h2 := va.2.2.1; simp only [Int.toNat_natCast] at h2; omega
  have UA := Lib.hid ha.1
  have UB := Lib.hid hb.1
  have UC := Lib.hid hc.1
  have HA := Lib.hid ha; clear ha
  have HB := Lib.hid hb; clear hb
  have HC := Lib.hid hc; clear hc
  have VA := Lib.hid va; clear va
  have VB := Lib.hid vb; clear vb
  have VC := Lib.hid vc; clear vc
  have HF := Lib.hid hfew; clear hfew
  have hT0 := tri_new w n n n A B C m ca m cb m cc
  go_enter Tryd.func9, Tryd.ntmps9
  go_wp2_with fail
  refine (awake_any _ (hT.below hT0.b)).mono ?_; rintro e w1 ⟨rfl, b1⟩
  have hT1 := hT0.next b1
  clear hT0 b1
  have c0 := hT1.s.c0
  have c1 := hT1.s.c1
  have d0 := hT1.t.c0
  have d1 := hT1.t.c1
  have e0 := hT1.u.c0
  have e1 := hT1.u.c1
  go_wp2_with fail
  clear c0 c1 d0 d1 e0 e1
  refine (few_yes w1.heap.size 3 _ _ _ _ _ (sets_three w1 n n n A B C m ca m cb m cc) (by decide) HF.out).mono ?_; rintro e w2 ⟨rfl, b2⟩
  have hT2 := hT1.next (((Below.refl _ _).alloc (Nat.le_refl _) _).trans (b2.mono (by simp)))
  clear hT1 b2
  have c0 := hT2.s.c0
  have c1 := hT2.s.c1
  have d0 := hT2.t.c0
  have d1 := hT2.t.c1
  have e0 := hT2.u.c0
  have e1 := hT2.u.c1
  go_wp2_with fail
  clear c0 c1 d0 d1 e0 e1
  refine (refCmp_yes _ _ _ _ _ _ _ _ _ _ (HA.out.below hT2.b) (HB.out.below hT2.b) VA.out VB.out).mono ?_; rintro e w3 ⟨rfl, b3⟩
  have hT3 := hT2.next b3
  clear hT2 b3
  have c0 := hT3.s.c0
  have c1 := hT3.s.c1
  have d0 := hT3.t.c0
  have d1 := hT3.t.c1
  have e0 := hT3.u.c0
  have e1 := hT3.u.c1
  go_wp2_with fail
  clear c0 c1 d0 d1 e0 e1
  refine (refCmp_yes _ _ _ _ _ _ _ _ _ _ (HB.out.below hT3.b) (HC.out.below hT3.b) VB.out VC.out).mono ?_; rintro e w4 ⟨rfl, b4⟩
  have hT4 := hT3.next b4
  clear hT3 b4
  have c0 := hT4.s.c0
  have c1 := hT4.s.c1
  have d0 := hT4.t.c0
  have d1 := hT4.t.c1
  go_wp2_with fail
  refine (DAB.out _ (HA.out.below hT4.b) (HB.out.below hT4.b)).mono ?_; rintro e w5 ⟨rfl, b5⟩
  clear c0 c1 d0 d1
  have hT5 := hT4.next b5
  clear hT4 b5
  have c0 := hT5.s.c0
  have c1 := hT5.s.c1
  have d0 := hT5.t.c0
  have d1 := hT5.t.c1
  go_wp2_with fail
  clear c0 c1 d0 d1
  refine (DBA.out _ (HB.out.below hT5.b) (HA.out.below hT5.b)).mono ?_; rintro e w6 ⟨rfl, b6⟩
  have hT6 := hT5.next b6
  clear hT5 b6
  have d0 := hT6.t.c0
  have d1 := hT6.t.c1
  have e0 := hT6.u.c0
  have e1 := hT6.u.c1
  go_wp2_with fail
  clear d0 d1 e0 e1
  refine (DBC.out _ (HB.out.below hT6.b) (HC.out.below hT6.b)).mono ?_; rintro e w7 ⟨rfl, b7⟩
  have hT7 := hT6.next b7
  clear hT6 b7
  have c0 := hT7.s.c0
  have c1 := hT7.s.c1
  have e0 := hT7.u.c0
  have e1 := hT7.u.c1
  go_wp2_with fail
  clear c0 c1 e0 e1
  refine (DAC.out _ (HA.out.below hT7.b) (HC.out.below hT7.b)).mono ?_; rintro e w8 ⟨rfl, b8⟩
  have hT8 := hT7.next b8
  clear hT7 b8
  have c0 := hT8.s.c0
  have c1 := hT8.s.c1
  have d0 := hT8.t.c0
  have d1 := hT8.t.c1
  go_wp2_with fail
  clear c0 c1 d0 d1
  refine (SAB.out _ (HA.out.below hT8.b) (HB.out.below hT8.b)).mono ?_; rintro e w9 ⟨rfl, b9⟩
  have hT9 := hT8.next b9
  clear hT8 b9
  have c0 := hT9.s.c0
  have c1 := hT9.s.c1
  have d0 := hT9.t.c0
  have d1 := hT9.t.c1
  go_wp2_with fail
  clear c0 c1 d0 d1
  refine (unionB_any n A B m ca cb f g _ (HA.out.below hT9.b) (HB.out.below hT9.b) VA.out VB.out).mono ?_; rintro e w10 ⟨gu, rfl, hgu, hru, b10⟩
  have hTx := (hT9.next b10).alloc (.cells #[.int .i64 n, .slice (some ⟨gu, 0, none⟩) m m] 24)
  have ux := setAt_new w10 n (some ⟨gu, 0, none⟩) m m
  have rux := hru.alloc (.cells #[.int .i64 n, .slice (some ⟨gu, 0, none⟩) m m] 24)
  clear hT9 b10 hru
  go_wp2_with fail
  generalize w10.heap.size = pu at *
  generalize w10.alloc (.cells #[.int .i64 n, .slice (some ⟨gu, 0, none⟩) m m] 24) = W at *
  have k0 := cell_regrown hTx.s.c0
  have k1 := cell_regrown hTx.s.c1
  have k2 := cell_regrown hTx.t.c0
  have k3 := cell_regrown hTx.t.c1
  have k4 := cell_regrown ux.c0
  have k5 := cell_regrown ux.c1
  have QA := Lib.hid (fun d os => Calls.regrown_of (IAU.out gu (grow (redrawn W d) os) (HA.out.below (below_next hTx.b (below_regrown W d os))) (row_wds (row_below rux (below_regrown W d os)) UU.out)))
  have QB := Lib.hid (fun d os => Calls.regrown_of (IAB.out (grow (redrawn W d) os) (HA.out.below (below_next hTx.b (below_regrown W d os))) (HB.out.below (below_next hTx.b (below_regrown W d os)))))
  have QC := Lib.hid (fun d os => Calls.regrown_of (SUB.out gu (grow (redrawn W d) os) (row_wds (row_below rux (below_regrown W d os)) UU.out) (HB.out.below (below_next hTx.b (below_regrown W d os)))))
  refine wp_region_quiet_below (by kernel_rfl) (by kernel_rfl) ?_
  repeat (first | go_big_quiet_step (first | with_reducible exact QA.out _ _ | with_reducible exact QB.out _ _ | with_reducible exact QC.out _ _) | quiet_step (first | with_reducible exact QA.out _ _ | with_reducible exact QB.out _ _ | with_reducible exact QC.out _ _))
  refine wpQuiet_nil ?_
  intro _ hw'
  obtain ⟨⟨dq, osq⟩, hw''⟩ := hw'
  subst hw''
  clear k0 k1 k2 k3 k4 k5
  have hTy := hTx.next (below_regrown W dq osq)
  clear QA QB QC hTx
  go_wp2_with fail
  go_ret
  exact ⟨by simp, hTy.b⟩
set_option maxRecDepth 100000 in
set_option maxHeartbeats 8000000 in
theorem total_zs (n : Nat) (A B C : Option Addr) (m ca cb cc : Nat) (f g h : Nat → Nat) (s t : Int) (w : World) (ha : Wds w A m f) (hb : Wds w B m g) (hc : Wds w C m h) (hT : Tab w) (hfew : ∀ k, k < 3 → pick3 m m m k ≤ 20) (va : Vld n m f) (vb : Vld n m g) (vc : Vld n m h) (hab : CmpB f g (64 * m) (0)) (hbc : CmpB g h (64 * m) s) (hac : CmpB f h (64 * m) t) (hs : decide (s ≤ 0) = false) (hv : true = true ↔ Sub f g m) :
    Calls Tryd.prog 9 #[.agg #[.int .i64 n, .slice A m ca], .agg #[.int .i64 n, .slice B m cb], .agg #[.int .i64 n, .slice C m cc]] w fun e w' => e = .returned (.bool true) ∧ Below w.heap.size w w' := by
  have hm9' : m ≤ 1000 := by have h1 := va.2.1; have h2 := va.2.2.1; simp only [Int.toNat_natCast] at h2; omega
  have hba : CmpB g f (64 * m) (0) := cmpB_symm hab
  have DAB := Lib.hid (fun (w : World) (h1 : Wds w A m f) (h2 : Wds w B m g) => compare_any n A B m ca cb f g (0) w h1 h2 va vb (cmpW_of ha.1 hb.1 hab))
  have DBA := Lib.hid (fun (w : World) (h1 : Wds w B m g) (h2 : Wds w A m f) => compare_any n B A m cb ca g f (0) w h1 h2 vb va (cmpW_of hb.1 ha.1 hba))
  have DBC := Lib.hid (fun (w : World) (h1 : Wds w B m g) (h2 : Wds w C m h) => compare_any n B C m cb cc g h s w h1 h2 vb vc (cmpW_of hb.1 hc.1 hbc))
  have DAC := Lib.hid (fun (w : World) (h1 : Wds w A m f) (h2 : Wds w C m h) => compare_any n A C m ca cc f h t w h1 h2 va vc (cmpW_of ha.1 hc.1 hac))
  have SAB := Lib.hid (same_of n m f g true hm9' ⟨fun _ => bt_ext ha.1 hb.1 ((cmpB_zero hab).1 rfl), fun _ => rfl⟩ A B ca cb)
  have SUB := Lib.hid (fun (gu : Nat) => same_of n m (comb orW f g) g true hm9' (hv.trans (or_same ha.1 hb.1).symm) (some ⟨gu, 0, none⟩) B m cb)
  have IAU := Lib.hid (fun (gu : Nat) (w : World) (h1 : Wds w A m f) (h2 : Wds w (some ⟨gu, 0, none⟩) m (comb orW f g)) => subset_any n A (some ⟨gu, 0, none⟩) m ca m f (comb orW f g) m true w h1 h2 va (vld_or va vb) (Nat.le_refl _) ((sub_words ha.1 (u64_or ha.1 hb.1)).1 (sub_or f g m)) (Or.inl ⟨rfl, rfl⟩))
  have IAB := Lib.hid (subset_lit n A B m ca cb f g true hv ha.1 hb.1 va vb)
  have UU := Lib.hid (u64_or ha.1 hb.1)
  clear hab hba hbc hac hv
  have hm9 : m ≤ 9 := by have h1 := va.2.1; have h2 := va.2.2.1; simp only [Int.toNat_natCast] at h2; omega
  have UA := Lib.hid ha.1
  have UB := Lib.hid hb.1
  have UC := Lib.hid hc.1
  have HA := Lib.hid ha; clear ha
  have HB := Lib.hid hb; clear hb
  have HC := Lib.hid hc; clear hc
  have VA := Lib.hid va; clear va
  have VB := Lib.hid vb; clear vb
  have VC := Lib.hid vc; clear vc
  have HF := Lib.hid hfew; clear hfew
  have hT0 := tri_new w n n n A B C m ca m cb m cc
  go_enter Tryd.func9, Tryd.ntmps9
  go_wp2_with fail
  refine (awake_any _ (hT.below hT0.b)).mono ?_; rintro e w1 ⟨rfl, b1⟩
  have hT1 := hT0.next b1
  clear hT0 b1
  have c0 := hT1.s.c0
  have c1 := hT1.s.c1
  have d0 := hT1.t.c0
  have d1 := hT1.t.c1
  have e0 := hT1.u.c0
  have e1 := hT1.u.c1
  go_wp2_with fail
  clear c0 c1 d0 d1 e0 e1
  refine (few_yes w1.heap.size 3 _ _ _ _ _ (sets_three w1 n n n A B C m ca m cb m cc) (by decide) HF.out).mono ?_; rintro e w2 ⟨rfl, b2⟩
  have hT2 := hT1.next (((Below.refl _ _).alloc (Nat.le_refl _) _).trans (b2.mono (by simp)))
  clear hT1 b2
  have c0 := hT2.s.c0
  have c1 := hT2.s.c1
  have d0 := hT2.t.c0
  have d1 := hT2.t.c1
  have e0 := hT2.u.c0
  have e1 := hT2.u.c1
  go_wp2_with fail
  clear c0 c1 d0 d1 e0 e1
  refine (refCmp_yes _ _ _ _ _ _ _ _ _ _ (HA.out.below hT2.b) (HB.out.below hT2.b) VA.out VB.out).mono ?_; rintro e w3 ⟨rfl, b3⟩
  have hT3 := hT2.next b3
  clear hT2 b3
  have c0 := hT3.s.c0
  have c1 := hT3.s.c1
  have d0 := hT3.t.c0
  have d1 := hT3.t.c1
  have e0 := hT3.u.c0
  have e1 := hT3.u.c1
  go_wp2_with fail
  clear c0 c1 d0 d1 e0 e1
  refine (refCmp_yes _ _ _ _ _ _ _ _ _ _ (HB.out.below hT3.b) (HC.out.below hT3.b) VB.out VC.out).mono ?_; rintro e w4 ⟨rfl, b4⟩
  have hT4 := hT3.next b4
  clear hT3 b4
  have c0 := hT4.s.c0
  have c1 := hT4.s.c1
  have d0 := hT4.t.c0
  have d1 := hT4.t.c1
  go_wp2_with fail
  refine (DAB.out _ (HA.out.below hT4.b) (HB.out.below hT4.b)).mono ?_; rintro e w5 ⟨rfl, b5⟩
  clear c0 c1 d0 d1
  have hT5 := hT4.next b5
  clear hT4 b5
  have c0 := hT5.s.c0
  have c1 := hT5.s.c1
  have d0 := hT5.t.c0
  have d1 := hT5.t.c1
  go_wp2_with fail
  clear c0 c1 d0 d1
  refine (DBA.out _ (HB.out.below hT5.b) (HA.out.below hT5.b)).mono ?_; rintro e w6 ⟨rfl, b6⟩
  have hT6 := hT5.next b6
  clear hT5 b6
  have d0 := hT6.t.c0
  have d1 := hT6.t.c1
  have e0 := hT6.u.c0
  have e1 := hT6.u.c1
  go_wp2_with fail
  clear d0 d1 e0 e1
  refine (DBC.out _ (HB.out.below hT6.b) (HC.out.below hT6.b)).mono ?_; rintro e w7 ⟨rfl, b7⟩
  have hT7 := hT6.next b7
  clear hT6 b7
  have c0 := hT7.s.c0
  have c1 := hT7.s.c1
  have e0 := hT7.u.c0
  have e1 := hT7.u.c1
  go_wp2_with fail
  clear c0 c1 e0 e1
  refine (DAC.out _ (HA.out.below hT7.b) (HC.out.below hT7.b)).mono ?_; rintro e w8 ⟨rfl, b8⟩
  have hT8 := hT7.next b8
  clear hT7 b8
  have c0 := hT8.s.c0
  have c1 := hT8.s.c1
  have d0 := hT8.t.c0
  have d1 := hT8.t.c1
  go_wp2_with fail
  clear c0 c1 d0 d1
  refine (SAB.out _ (HA.out.below hT8.b) (HB.out.below hT8.b)).mono ?_; rintro e w9 ⟨rfl, b9⟩
  have hT9 := hT8.next b9
  clear hT8 b9
  have c0 := hT9.s.c0
  have c1 := hT9.s.c1
  have d0 := hT9.t.c0
  have d1 := hT9.t.c1
  go_wp2_with fail
  clear c0 c1 d0 d1
  refine (unionB_any n A B m ca cb f g _ (HA.out.below hT9.b) (HB.out.below hT9.b) VA.out VB.out).mono ?_; rintro e w10 ⟨gu, rfl, hgu, hru, b10⟩
  have hTx := (hT9.next b10).alloc (.cells #[.int .i64 n, .slice (some ⟨gu, 0, none⟩) m m] 24)
  have ux := setAt_new w10 n (some ⟨gu, 0, none⟩) m m
  have rux := hru.alloc (.cells #[.int .i64 n, .slice (some ⟨gu, 0, none⟩) m m] 24)
  clear hT9 b10 hru
  go_wp2_with fail
  generalize w10.heap.size = pu at *
  generalize w10.alloc (.cells #[.int .i64 n, .slice (some ⟨gu, 0, none⟩) m m] 24) = W at *
  have k0 := cell_regrown hTx.s.c0
  have k1 := cell_regrown hTx.s.c1
  have k2 := cell_regrown hTx.t.c0
  have k3 := cell_regrown hTx.t.c1
  have k4 := cell_regrown ux.c0
  have k5 := cell_regrown ux.c1
  have QA := Lib.hid (fun d os => Calls.regrown_of (IAU.out gu (grow (redrawn W d) os) (HA.out.below (below_next hTx.b (below_regrown W d os))) (row_wds (row_below rux (below_regrown W d os)) UU.out)))
  have QB := Lib.hid (fun d os => Calls.regrown_of (IAB.out (grow (redrawn W d) os) (HA.out.below (below_next hTx.b (below_regrown W d os))) (HB.out.below (below_next hTx.b (below_regrown W d os)))))
  have QC := Lib.hid (fun d os => Calls.regrown_of (SUB.out gu (grow (redrawn W d) os) (row_wds (row_below rux (below_regrown W d os)) UU.out) (HB.out.below (below_next hTx.b (below_regrown W d os)))))
  refine wp_region_quiet_below (by kernel_rfl) (by kernel_rfl) ?_
  repeat (first | go_big_quiet_step (first | with_reducible exact QA.out _ _ | with_reducible exact QB.out _ _ | with_reducible exact QC.out _ _) | quiet_step (first | with_reducible exact QA.out _ _ | with_reducible exact QB.out _ _ | with_reducible exact QC.out _ _))
  refine wpQuiet_nil ?_
  intro _ hw'
  obtain ⟨⟨dq, osq⟩, hw''⟩ := hw'
  subst hw''
  clear k0 k1 k2 k3 k4 k5
  have hTy := hTx.next (below_regrown W dq osq)
  clear QA QB QC hTx
  go_wp2_with fail
  go_ret
  exact ⟨by simp, hTy.b⟩
set_option maxRecDepth 100000 in
set_option maxHeartbeats 8000000 in
theorem total_zt (n : Nat) (A B C : Option Addr) (m ca cb cc : Nat) (f g h : Nat → Nat) (s t : Int) (w : World) (ha : Wds w A m f) (hb : Wds w B m g) (hc : Wds w C m h) (hT : Tab w) (hfew : ∀ k, k < 3 → pick3 m m m k ≤ 20) (va : Vld n m f) (vb : Vld n m g) (vc : Vld n m h) (hab : CmpB f g (64 * m) (0)) (hbc : CmpB g h (64 * m) s) (hac : CmpB f h (64 * m) t) (hs : decide (s ≤ 0) = true) (ht : decide (0 < t) = false) (hv : true = true ↔ Sub f g m) :
    Calls Tryd.prog 9 #[.agg #[.int .i64 n, .slice A m ca], .agg #[.int .i64 n, .slice B m cb], .agg #[.int .i64 n, .slice C m cc]] w fun e w' => e = .returned (.bool true) ∧ Below w.heap.size w w' := by
  have hm9' : m ≤ 1000 := by have h1 := va.2.1; have h2 := va.2.2.1; simp only [Int.toNat_natCast] at h2; omega
  have hba : CmpB g f (64 * m) (0) := cmpB_symm hab
  have DAB := Lib.hid (fun (w : World) (h1 : Wds w A m f) (h2 : Wds w B m g) => compare_any n A B m ca cb f g (0) w h1 h2 va vb (cmpW_of ha.1 hb.1 hab))
  have DBA := Lib.hid (fun (w : World) (h1 : Wds w B m g) (h2 : Wds w A m f) => compare_any n B A m cb ca g f (0) w h1 h2 vb va (cmpW_of hb.1 ha.1 hba))
  have DBC := Lib.hid (fun (w : World) (h1 : Wds w B m g) (h2 : Wds w C m h) => compare_any n B C m cb cc g h s w h1 h2 vb vc (cmpW_of hb.1 hc.1 hbc))
  have DAC := Lib.hid (fun (w : World) (h1 : Wds w A m f) (h2 : Wds w C m h) => compare_any n A C m ca cc f h t w h1 h2 va vc (cmpW_of ha.1 hc.1 hac))
  have SAB := Lib.hid (same_of n m f g true hm9' ⟨fun _ => bt_ext ha.1 hb.1 ((cmpB_zero hab).1 rfl), fun _ => rfl⟩ A B ca cb)
  have SUB := Lib.hid (fun (gu : Nat) => same_of n m (comb orW f g) g true hm9' (hv.trans (or_same ha.1 hb.1).symm) (some ⟨gu, 0, none⟩) B m cb)
  have IAU := Lib.hid (fun (gu : Nat) (w : World) (h1 : Wds w A m f) (h2 : Wds w (some ⟨gu, 0, none⟩) m (comb orW f g)) => subset_any n A (some ⟨gu, 0, none⟩) m ca m f (comb orW f g) m true w h1 h2 va (vld_or va vb) (Nat.le_refl _) ((sub_words ha.1 (u64_or ha.1 hb.1)).1 (sub_or f g m)) (Or.inl ⟨rfl, rfl⟩))
  have IAB := Lib.hid (subset_lit n A B m ca cb f g true hv ha.1 hb.1 va vb)
  have UU := Lib.hid (u64_or ha.1 hb.1)
  clear hab hba hbc hac hv
  have hm9 : m ≤ 9 := by have h1 := va.2.1; have h2 := va.2.2.1; simp only [Int.toNat_natCast] at h2; omega
  have UA := Lib.hid ha.1
  have UB := Lib.hid hb.1
  have UC := Lib.hid hc.1
  have HA := Lib.hid ha; clear ha
  have HB := Lib.hid hb; clear hb
  have HC := Lib.hid hc; clear hc
  have VA := Lib.hid va; clear va
  have VB := Lib.hid vb; clear vb
  have VC := Lib.hid vc; clear vc
  have HF := Lib.hid hfew; clear hfew
  have hT0 := tri_new w n n n A B C m ca m cb m cc
  go_enter Tryd.func9, Tryd.ntmps9
  go_wp2_with fail
  refine (awake_any _ (hT.below hT0.b)).mono ?_; rintro e w1 ⟨rfl, b1⟩
  have hT1 := hT0.next b1
  clear hT0 b1
  have c0 := hT1.s.c0
  have c1 := hT1.s.c1
  have d0 := hT1.t.c0
  have d1 := hT1.t.c1
  have e0 := hT1.u.c0
  have e1 := hT1.u.c1
  go_wp2_with fail
  clear c0 c1 d0 d1 e0 e1
  refine (few_yes w1.heap.size 3 _ _ _ _ _ (sets_three w1 n n n A B C m ca m cb m cc) (by decide) HF.out).mono ?_; rintro e w2 ⟨rfl, b2⟩
  have hT2 := hT1.next (((Below.refl _ _).alloc (Nat.le_refl _) _).trans (b2.mono (by simp)))
  clear hT1 b2
  have c0 := hT2.s.c0
  have c1 := hT2.s.c1
  have d0 := hT2.t.c0
  have d1 := hT2.t.c1
  have e0 := hT2.u.c0
  have e1 := hT2.u.c1
  go_wp2_with fail
  clear c0 c1 d0 d1 e0 e1
  refine (refCmp_yes _ _ _ _ _ _ _ _ _ _ (HA.out.below hT2.b) (HB.out.below hT2.b) VA.out VB.out).mono ?_; rintro e w3 ⟨rfl, b3⟩
  have hT3 := hT2.next b3
  clear hT2 b3
  have c0 := hT3.s.c0
  have c1 := hT3.s.c1
  have d0 := hT3.t.c0
  have d1 := hT3.t.c1
  have e0 := hT3.u.c0
  have e1 := hT3.u.c1
  go_wp2_with fail
  clear c0 c1 d0 d1 e0 e1
  refine (refCmp_yes _ _ _ _ _ _ _ _ _ _ (HB.out.below hT3.b) (HC.out.below hT3.b) VB.out VC.out).mono ?_; rintro e w4 ⟨rfl, b4⟩
  have hT4 := hT3.next b4
  clear hT3 b4
  have c0 := hT4.s.c0
  have c1 := hT4.s.c1
  have d0 := hT4.t.c0
  have d1 := hT4.t.c1
  go_wp2_with fail
  refine (DAB.out _ (HA.out.below hT4.b) (HB.out.below hT4.b)).mono ?_; rintro e w5 ⟨rfl, b5⟩
  clear c0 c1 d0 d1
  have hT5 := hT4.next b5
  clear hT4 b5
  have c0 := hT5.s.c0
  have c1 := hT5.s.c1
  have d0 := hT5.t.c0
  have d1 := hT5.t.c1
  go_wp2_with fail
  clear c0 c1 d0 d1
  refine (DBA.out _ (HB.out.below hT5.b) (HA.out.below hT5.b)).mono ?_; rintro e w6 ⟨rfl, b6⟩
  have hT6 := hT5.next b6
  clear hT5 b6
  have d0 := hT6.t.c0
  have d1 := hT6.t.c1
  have e0 := hT6.u.c0
  have e1 := hT6.u.c1
  go_wp2_with fail
  clear d0 d1 e0 e1
  refine (DBC.out _ (HB.out.below hT6.b) (HC.out.below hT6.b)).mono ?_; rintro e w7 ⟨rfl, b7⟩
  have hT7 := hT6.next b7
  clear hT6 b7
  have c0 := hT7.s.c0
  have c1 := hT7.s.c1
  have e0 := hT7.u.c0
  have e1 := hT7.u.c1
  go_wp2_with fail
  clear c0 c1 e0 e1
  refine (DAC.out _ (HA.out.below hT7.b) (HC.out.below hT7.b)).mono ?_; rintro e w8 ⟨rfl, b8⟩
  have hT8 := hT7.next b8
  clear hT7 b8
  have c0 := hT8.s.c0
  have c1 := hT8.s.c1
  have d0 := hT8.t.c0
  have d1 := hT8.t.c1
  go_wp2_with fail
  clear c0 c1 d0 d1
  refine (SAB.out _ (HA.out.below hT8.b) (HB.out.below hT8.b)).mono ?_; rintro e w9 ⟨rfl, b9⟩
  have hT9 := hT8.next b9
  clear hT8 b9
  have c0 := hT9.s.c0
  have c1 := hT9.s.c1
  have d0 := hT9.t.c0
  have d1 := hT9.t.c1
  go_wp2_with fail
  clear c0 c1 d0 d1
  refine (unionB_any n A B m ca cb f g _ (HA.out.below hT9.b) (HB.out.below hT9.b) VA.out VB.out).mono ?_; rintro e w10 ⟨gu, rfl, hgu, hru, b10⟩
  have hTx := (hT9.next b10).alloc (.cells #[.int .i64 n, .slice (some ⟨gu, 0, none⟩) m m] 24)
  have ux := setAt_new w10 n (some ⟨gu, 0, none⟩) m m
  have rux := hru.alloc (.cells #[.int .i64 n, .slice (some ⟨gu, 0, none⟩) m m] 24)
  clear hT9 b10 hru
  go_wp2_with fail
  generalize w10.heap.size = pu at *
  generalize w10.alloc (.cells #[.int .i64 n, .slice (some ⟨gu, 0, none⟩) m m] 24) = W at *
  have k0 := cell_regrown hTx.s.c0
  have k1 := cell_regrown hTx.s.c1
  have k2 := cell_regrown hTx.t.c0
  have k3 := cell_regrown hTx.t.c1
  have k4 := cell_regrown ux.c0
  have k5 := cell_regrown ux.c1
  have QA := Lib.hid (fun d os => Calls.regrown_of (IAU.out gu (grow (redrawn W d) os) (HA.out.below (below_next hTx.b (below_regrown W d os))) (row_wds (row_below rux (below_regrown W d os)) UU.out)))
  have QB := Lib.hid (fun d os => Calls.regrown_of (IAB.out (grow (redrawn W d) os) (HA.out.below (below_next hTx.b (below_regrown W d os))) (HB.out.below (below_next hTx.b (below_regrown W d os)))))
  have QC := Lib.hid (fun d os => Calls.regrown_of (SUB.out gu (grow (redrawn W d) os) (row_wds (row_below rux (below_regrown W d os)) UU.out) (HB.out.below (below_next hTx.b (below_regrown W d os)))))
  refine wp_region_quiet_below (by kernel_rfl) (by kernel_rfl) ?_
  repeat (first | go_big_quiet_step (first | with_reducible exact QA.out _ _ | with_reducible exact QB.out _ _ | with_reducible exact QC.out _ _) | quiet_step (first | with_reducible exact QA.out _ _ | with_reducible exact QB.out _ _ | with_reducible exact QC.out _ _))
  refine wpQuiet_nil ?_
  intro _ hw'
  obtain ⟨⟨dq, osq⟩, hw''⟩ := hw'
  subst hw''
  clear k0 k1 k2 k3 k4 k5
  have hTy := hTx.next (below_regrown W dq osq)
  clear QA QB QC hTx
  go_wp2_with fail
  go_ret
  exact ⟨by simp, hTy.b⟩
set_option maxRecDepth 100000 in
set_option maxHeartbeats 8000000 in
theorem total_mst (n : Nat) (A B C : Option Addr) (m ca cb cc : Nat) (f g h : Nat → Nat) (s t : Int) (w : World) (ha : Wds w A m f) (hb : Wds w B m g) (hc : Wds w C m h) (hT : Tab w) (hfew : ∀ k, k < 3 → pick3 m m m k ≤ 20) (va : Vld n m f) (vb : Vld n m g) (vc : Vld n m h) (hab : CmpB f g (64 * m) (-1)) (hbc : CmpB g h (64 * m) s) (hac : CmpB f h (64 * m) t) (hs : decide (s ≤ 0) = false) (hv : true = true ↔ Sub f g m) :
    Calls Tryd.prog 9 #[.agg #[.int .i64 n, .slice A m ca], .agg #[.int .i64 n, .slice B m cb], .agg #[.int .i64 n, .slice C m cc]] w fun e w' => e = .returned (.bool true) ∧ Below w.heap.size w w' := by
  have hm9' : m ≤ 1000 := by have h1 := va.2.1; have h2 := va.2.2.1; simp only [Int.toNat_natCast] at h2; omega
  have hba : CmpB g f (64 * m) (1) := cmpB_symm hab
  have DAB := Lib.hid (fun (w : World) (h1 : Wds w A m f) (h2 : Wds w B m g) => compare_any n A B m ca cb f g (-1) w h1 h2 va vb (cmpW_of ha.1 hb.1 hab))
  have DBA := Lib.hid (fun (w : World) (h1 : Wds w B m g) (h2 : Wds w A m f) => compare_any n B A m cb ca g f (1) w h1 h2 vb va (cmpW_of hb.1 ha.1 hba))
  have DBC := Lib.hid (fun (w : World) (h1 : Wds w B m g) (h2 : Wds w C m h) => compare_any n B C m cb cc g h s w h1 h2 vb vc (cmpW_of hb.1 hc.1 hbc))
  have DAC := Lib.hid (fun (w : World) (h1 : Wds w A m f) (h2 : Wds w C m h) => compare_any n A C m ca cc f h t w h1 h2 va vc (cmpW_of ha.1 hc.1 hac))
  have SAB := Lib.hid (same_of n m f g false hm9' ⟨(fun h => by cases h), fun h => absurd ((cmpB_zero hab).2 (bt_congr h)) (by decide)⟩ A B ca cb)
  have SUB := Lib.hid (fun (gu : Nat) => same_of n m (comb orW f g) g true hm9' (hv.trans (or_same ha.1 hb.1).symm) (some ⟨gu, 0, none⟩) B m cb)
  have IAU := Lib.hid (fun (gu : Nat) (w : World) (h1 : Wds w A m f) (h2 : Wds w (some ⟨gu, 0, none⟩) m (comb orW f g)) => subset_any n A (some ⟨gu, 0, none⟩) m ca m f (comb orW f g) m true w h1 h2 va (vld_or va vb) (Nat.le_refl _) ((sub_words ha.1 (u64_or ha.1 hb.1)).1 (sub_or f g m)) (Or.inl ⟨rfl, rfl⟩))
  have IAB := Lib.hid (subset_lit n A B m ca cb f g true hv ha.1 hb.1 va vb)
  have UU := Lib.hid (u64_or ha.1 hb.1)
  clear hab hba hbc hac hv
  have hm9 : m ≤ 9 := by have h1 := va.2.1; have h2 := va.2.2.1; simp only [Int.toNat_natCast] at h2; omega
  have UA := Lib.hid ha.1
  have UB := Lib.hid hb.1
  have UC := Lib.hid hc.1
  have HA := Lib.hid ha; clear ha
  have HB := Lib.hid hb; clear hb
  have HC := Lib.hid hc; clear hc
  have VA := Lib.hid va; clear va
  have VB := Lib.hid vb; clear vb
  have VC := Lib.hid vc; clear vc
  have HF := Lib.hid hfew; clear hfew
  have hT0 := tri_new w n n n A B C m ca m cb m cc
  go_enter Tryd.func9, Tryd.ntmps9
  go_wp2_with fail
  refine (awake_any _ (hT.below hT0.b)).mono ?_; rintro e w1 ⟨rfl, b1⟩
  have hT1 := hT0.next b1
  clear hT0 b1
  have c0 := hT1.s.c0
  have c1 := hT1.s.c1
  have d0 := hT1.t.c0
  have d1 := hT1.t.c1
  have e0 := hT1.u.c0
  have e1 := hT1.u.c1
  go_wp2_with fail
  clear c0 c1 d0 d1 e0 e1
  refine (few_yes w1.heap.size 3 _ _ _ _ _ (sets_three w1 n n n A B C m ca m cb m cc) (by decide) HF.out).mono ?_; rintro e w2 ⟨rfl, b2⟩
  have hT2 := hT1.next (((Below.refl _ _).alloc (Nat.le_refl _) _).trans (b2.mono (by simp)))
  clear hT1 b2
  have c0 := hT2.s.c0
  have c1 := hT2.s.c1
  have d0 := hT2.t.c0
  have d1 := hT2.t.c1
  have e0 := hT2.u.c0
  have e1 := hT2.u.c1
  go_wp2_with fail
  clear c0 c1 d0 d1 e0 e1
  refine (refCmp_yes _ _ _ _ _ _ _ _ _ _ (HA.out.below hT2.b) (HB.out.below hT2.b) VA.out VB.out).mono ?_; rintro e w3 ⟨rfl, b3⟩
  have hT3 := hT2.next b3
  clear hT2 b3
  have c0 := hT3.s.c0
  have c1 := hT3.s.c1
  have d0 := hT3.t.c0
  have d1 := hT3.t.c1
  have e0 := hT3.u.c0
  have e1 := hT3.u.c1
  go_wp2_with fail
  clear c0 c1 d0 d1 e0 e1
  refine (refCmp_yes _ _ _ _ _ _ _ _ _ _ (HB.out.below hT3.b) (HC.out.below hT3.b) VB.out VC.out).mono ?_; rintro e w4 ⟨rfl, b4⟩
  have hT4 := hT3.next b4
  clear hT3 b4
  have c0 := hT4.s.c0
  have c1 := hT4.s.c1
  have d0 := hT4.t.c0
  have d1 := hT4.t.c1
  go_wp2_with fail
  refine (DAB.out _ (HA.out.below hT4.b) (HB.out.below hT4.b)).mono ?_; rintro e w5 ⟨rfl, b5⟩
  clear c0 c1 d0 d1
  have hT5 := hT4.next b5
  clear hT4 b5
  have c0 := hT5.s.c0
  have c1 := hT5.s.c1
  have d0 := hT5.t.c0
  have d1 := hT5.t.c1
  go_wp2_with fail
  clear c0 c1 d0 d1
  refine (DBA.out _ (HB.out.below hT5.b) (HA.out.below hT5.b)).mono ?_; rintro e w6 ⟨rfl, b6⟩
  have hT6 := hT5.next b6
  clear hT5 b6
  have d0 := hT6.t.c0
  have d1 := hT6.t.c1
  have e0 := hT6.u.c0
  have e1 := hT6.u.c1
  go_wp2_with fail
  clear d0 d1 e0 e1
  refine (DBC.out _ (HB.out.below hT6.b) (HC.out.below hT6.b)).mono ?_; rintro e w7 ⟨rfl, b7⟩
  have hT7 := hT6.next b7
  clear hT6 b7
  have c0 := hT7.s.c0
  have c1 := hT7.s.c1
  have e0 := hT7.u.c0
  have e1 := hT7.u.c1
  go_wp2_with fail
  clear c0 c1 e0 e1
  refine (DAC.out _ (HA.out.below hT7.b) (HC.out.below hT7.b)).mono ?_; rintro e w8 ⟨rfl, b8⟩
  have hT8 := hT7.next b8
  clear hT7 b8
  have c0 := hT8.s.c0
  have c1 := hT8.s.c1
  have d0 := hT8.t.c0
  have d1 := hT8.t.c1
  go_wp2_with fail
  clear c0 c1 d0 d1
  refine (SAB.out _ (HA.out.below hT8.b) (HB.out.below hT8.b)).mono ?_; rintro e w9 ⟨rfl, b9⟩
  have hT9 := hT8.next b9
  clear hT8 b9
  have c0 := hT9.s.c0
  have c1 := hT9.s.c1
  have d0 := hT9.t.c0
  have d1 := hT9.t.c1
  go_wp2_with fail
  clear c0 c1 d0 d1
  refine (unionB_any n A B m ca cb f g _ (HA.out.below hT9.b) (HB.out.below hT9.b) VA.out VB.out).mono ?_; rintro e w10 ⟨gu, rfl, hgu, hru, b10⟩
  have hTx := (hT9.next b10).alloc (.cells #[.int .i64 n, .slice (some ⟨gu, 0, none⟩) m m] 24)
  have ux := setAt_new w10 n (some ⟨gu, 0, none⟩) m m
  have rux := hru.alloc (.cells #[.int .i64 n, .slice (some ⟨gu, 0, none⟩) m m] 24)
  clear hT9 b10 hru
  go_wp2_with fail
  generalize w10.heap.size = pu at *
  generalize w10.alloc (.cells #[.int .i64 n, .slice (some ⟨gu, 0, none⟩) m m] 24) = W at *
  have k0 := cell_regrown hTx.s.c0
  have k1 := cell_regrown hTx.s.c1
  have k2 := cell_regrown hTx.t.c0
  have k3 := cell_regrown hTx.t.c1
  have k4 := cell_regrown ux.c0
  have k5 := cell_regrown ux.c1
  have QA := Lib.hid (fun d os => Calls.regrown_of (IAU.out gu (grow (redrawn W d) os) (HA.out.below (below_next hTx.b (below_regrown W d os))) (row_wds (row_below rux (below_regrown W d os)) UU.out)))
  have QB := Lib.hid (fun d os => Calls.regrown_of (IAB.out (grow (redrawn W d) os) (HA.out.below (below_next hTx.b (below_regrown W d os))) (HB.out.below (below_next hTx.b (below_regrown W d os)))))
  have QC := Lib.hid (fun d os => Calls.regrown_of (SUB.out gu (grow (redrawn W d) os) (row_wds (row_below rux (below_regrown W d os)) UU.out) (HB.out.below (below_next hTx.b (below_regrown W d os)))))
  refine wp_region_quiet_below (by kernel_rfl) (by kernel_rfl) ?_
  repeat (first | go_big_quiet_step (first | with_reducible exact QA.out _ _ | with_reducible exact QB.out _ _ | with_reducible exact QC.out _ _) | quiet_step (first | with_reducible exact QA.out _ _ | with_reducible exact QB.out _ _ | with_reducible exact QC.out _ _))
  refine wpQuiet_nil ?_
  intro _ hw'
  obtain ⟨⟨dq, osq⟩, hw''⟩ := hw'
  subst hw''
  clear k0 k1 k2 k3 k4 k5
  have hTy := hTx.next (below_regrown W dq osq)
  clear QA QB QC hTx
  go_wp2_with fail
  go_ret
  exact ⟨by simp, hTy.b⟩
set_option maxRecDepth 100000 in
set_option maxHeartbeats 8000000 in
theorem total_mtt (n : Nat) (A B C : Option Addr) (m ca cb cc : Nat) (f g h : Nat → Nat) (s t : Int) (w : World) (ha : Wds w A m f) (hb : Wds w B m g) (hc : Wds w C m h) (hT : Tab w) (hfew : ∀ k, k < 3 → pick3 m m m k ≤ 20) (va : Vld n m f) (vb : Vld n m g) (vc : Vld n m h) (hab : CmpB f g (64 * m) (-1)) (hbc : CmpB g h (64 * m) s) (hac : CmpB f h (64 * m) t) (hs : decide (s ≤ 0) = true) (ht : decide (0 < t) = false) (hv : true = true ↔ Sub f g m) :
    Calls Tryd.prog 9 #[.agg #[.int .i64 n, .slice A m ca], .agg #[.int .i64 n, .slice B m cb], .agg #[.int .i64 n, .slice C m cc]] w fun e w' => e = .returned (.bool true) ∧ Below w.heap.size w w' := by
  have hm9' : m ≤ 1000 := by have h1 := va.2.1; have h2 := va.2.2.1; simp only [Int.toNat_natCast] at h2; omega
  have hba : CmpB g f (64 * m) (1) := cmpB_symm hab
  have DAB := Lib.hid (fun (w : World) (h1 : Wds w A m f) (h2 : Wds w B m g) => compare_any n A B m ca cb f g (-1) w h1 h2 va vb (cmpW_of ha.1 hb.1 hab))
  have DBA := Lib.hid (fun (w : World) (h1 : Wds w B m g) (h2 : Wds w A m f) => compare_any n B A m cb ca g f (1) w h1 h2 vb va (cmpW_of hb.1 ha.1 hba))
  have DBC := Lib.hid (fun (w : World) (h1 : Wds w B m g) (h2 : Wds w C m h) => compare_any n B C m cb cc g h s w h1 h2 vb vc (cmpW_of hb.1 hc.1 hbc))
  have DAC := Lib.hid (fun (w : World) (h1 : Wds w A m f) (h2 : Wds w C m h) => compare_any n A C m ca cc f h t w h1 h2 va vc (cmpW_of ha.1 hc.1 hac))
  have SAB := Lib.hid (same_of n m f g false hm9' ⟨(fun h => by cases h), fun h => absurd ((cmpB_zero hab).2 (bt_congr h)) (by decide)⟩ A B ca cb)
  have SUB := Lib.hid (fun (gu : Nat) => same_of n m (comb orW f g) g true hm9' (hv.trans (or_same ha.1 hb.1).symm) (some ⟨gu, 0, none⟩) B m cb)
  have IAU := Lib.hid (fun (gu : Nat) (w : World) (h1 : Wds w A m f) (h2 : Wds w (some ⟨gu, 0, none⟩) m (comb orW f g)) => subset_any n A (some ⟨gu, 0, none⟩) m ca m f (comb orW f g) m true w h1 h2 va (vld_or va vb) (Nat.le_refl _) ((sub_words ha.1 (u64_or ha.1 hb.1)).1 (sub_or f g m)) (Or.inl ⟨rfl, rfl⟩))
  have IAB := Lib.hid (subset_lit n A B m ca cb f g true hv ha.1 hb.1 va vb)
  have UU := Lib.hid (u64_or ha.1 hb.1)
  clear hab hba hbc hac hv
  have hm9 : m ≤ 9 := by have h1 := va.2.1; have h2 := va.2.2.1; simp only [Int.toNat_natCast] at h2; omega
  have UA := Lib.hid ha.1
  have UB := Lib.hid hb.1
  have UC := Lib.hid hc.1
  have HA := Lib.hid ha; clear ha
  have HB := Lib.hid hb; clear hb
  have HC := Lib.hid hc; clear hc
  have VA := Lib.hid va; clear va
  have VB := Lib.hid vb; clear vb
  have VC := Lib.hid vc; clear vc
  have HF := Lib.hid hfew; clear hfew
  have hT0 := tri_new w n n n A B C m ca m cb m cc
  go_enter Tryd.func9, Tryd.ntmps9
  go_wp2_with fail
  refine (awake_any _ (hT.below hT0.b)).mono ?_; rintro e w1 ⟨rfl, b1⟩
  have hT1 := hT0.next b1
  clear hT0 b1
  have c0 := hT1.s.c0
  have c1 := hT1.s.c1
  have d0 := hT1.t.c0
  have d1 := hT1.t.c1
  have e0 := hT1.u.c0
  have e1 := hT1.u.c1
  go_wp2_with fail
  clear c0 c1 d0 d1 e0 e1
  refine (few_yes w1.heap.size 3 _ _ _ _ _ (sets_three w1 n n n A B C m ca m cb m cc) (by decide) HF.out).mono ?_; rintro e w2 ⟨rfl, b2⟩
  have hT2 := hT1.next (((Below.refl _ _).alloc (Nat.le_refl _) _).trans (b2.mono (by simp)))
  clear hT1 b2
  have c0 := hT2.s.c0
  have c1 := hT2.s.c1
  have d0 := hT2.t.c0
  have d1 := hT2.t.c1
  have e0 := hT2.u.c0
  have e1 := hT2.u.c1
  go_wp2_with fail
  clear c0 c1 d0 d1 e0 e1
  refine (refCmp_yes _ _ _ _ _ _ _ _ _ _ (HA.out.below hT2.b) (HB.out.below hT2.b) VA.out VB.out).mono ?_; rintro e w3 ⟨rfl, b3⟩
  have hT3 := hT2.next b3
  clear hT2 b3
  have c0 := hT3.s.c0
  have c1 := hT3.s.c1
  have d0 := hT3.t.c0
  have d1 := hT3.t.c1
  have e0 := hT3.u.c0
  have e1 := hT3.u.c1
  go_wp2_with fail
  clear c0 c1 d0 d1 e0 e1
  refine (refCmp_yes _ _ _ _ _ _ _ _ _ _ (HB.out.below hT3.b) (HC.out.below hT3.b) VB.out VC.out).mono ?_; rintro e w4 ⟨rfl, b4⟩
  have hT4 := hT3.next b4
  clear hT3 b4
  have c0 := hT4.s.c0
  have c1 := hT4.s.c1
  have d0 := hT4.t.c0
  have d1 := hT4.t.c1
  go_wp2_with fail
  refine (DAB.out _ (HA.out.below hT4.b) (HB.out.below hT4.b)).mono ?_; rintro e w5 ⟨rfl, b5⟩
  clear c0 c1 d0 d1
  have hT5 := hT4.next b5
  clear hT4 b5
  have c0 := hT5.s.c0
  have c1 := hT5.s.c1
  have d0 := hT5.t.c0
  have d1 := hT5.t.c1
  go_wp2_with fail
  clear c0 c1 d0 d1
  refine (DBA.out _ (HB.out.below hT5.b) (HA.out.below hT5.b)).mono ?_; rintro e w6 ⟨rfl, b6⟩
  have hT6 := hT5.next b6
  clear hT5 b6
  have d0 := hT6.t.c0
  have d1 := hT6.t.c1
  have e0 := hT6.u.c0
  have e1 := hT6.u.c1
  go_wp2_with fail
  clear d0 d1 e0 e1
  refine (DBC.out _ (HB.out.below hT6.b) (HC.out.below hT6.b)).mono ?_; rintro e w7 ⟨rfl, b7⟩
  have hT7 := hT6.next b7
  clear hT6 b7
  have c0 := hT7.s.c0
  have c1 := hT7.s.c1
  have e0 := hT7.u.c0
  have e1 := hT7.u.c1
  go_wp2_with fail
  clear c0 c1 e0 e1
  refine (DAC.out _ (HA.out.below hT7.b) (HC.out.below hT7.b)).mono ?_; rintro e w8 ⟨rfl, b8⟩
  have hT8 := hT7.next b8
  clear hT7 b8
  have c0 := hT8.s.c0
  have c1 := hT8.s.c1
  have d0 := hT8.t.c0
  have d1 := hT8.t.c1
  go_wp2_with fail
  clear c0 c1 d0 d1
  refine (SAB.out _ (HA.out.below hT8.b) (HB.out.below hT8.b)).mono ?_; rintro e w9 ⟨rfl, b9⟩
  have hT9 := hT8.next b9
  clear hT8 b9
  have c0 := hT9.s.c0
  have c1 := hT9.s.c1
  have d0 := hT9.t.c0
  have d1 := hT9.t.c1
  go_wp2_with fail
  clear c0 c1 d0 d1
  refine (unionB_any n A B m ca cb f g _ (HA.out.below hT9.b) (HB.out.below hT9.b) VA.out VB.out).mono ?_; rintro e w10 ⟨gu, rfl, hgu, hru, b10⟩
  have hTx := (hT9.next b10).alloc (.cells #[.int .i64 n, .slice (some ⟨gu, 0, none⟩) m m] 24)
  have ux := setAt_new w10 n (some ⟨gu, 0, none⟩) m m
  have rux := hru.alloc (.cells #[.int .i64 n, .slice (some ⟨gu, 0, none⟩) m m] 24)
  clear hT9 b10 hru
  go_wp2_with fail
  generalize w10.heap.size = pu at *
  generalize w10.alloc (.cells #[.int .i64 n, .slice (some ⟨gu, 0, none⟩) m m] 24) = W at *
  have k0 := cell_regrown hTx.s.c0
  have k1 := cell_regrown hTx.s.c1
  have k2 := cell_regrown hTx.t.c0
  have k3 := cell_regrown hTx.t.c1
  have k4 := cell_regrown ux.c0
  have k5 := cell_regrown ux.c1
  have QA := Lib.hid (fun d os => Calls.regrown_of (IAU.out gu (grow (redrawn W d) os) (HA.out.below (below_next hTx.b (below_regrown W d os))) (row_wds (row_below rux (below_regrown W d os)) UU.out)))
  have QB := Lib.hid (fun d os => Calls.regrown_of (IAB.out (grow (redrawn W d) os) (HA.out.below (below_next hTx.b (below_regrown W d os))) (HB.out.below (below_next hTx.b (below_regrown W d os)))))
  have QC := Lib.hid (fun d os => Calls.regrown_of (SUB.out gu (grow (redrawn W d) os) (row_wds (row_below rux (below_regrown W d os)) UU.out) (HB.out.below (below_next hTx.b (below_regrown W d os)))))
  refine wp_region_quiet_below (by kernel_rfl) (by kernel_rfl) ?_
  repeat (first | go_big_quiet_step (first | with_reducible exact QA.out _ _ | with_reducible exact QB.out _ _ | with_reducible exact QC.out _ _) | quiet_step (first | with_reducible exact QA.out _ _ | with_reducible exact QB.out _ _ | with_reducible exact QC.out _ _))
  refine wpQuiet_nil ?_
  intro _ hw'
  obtain ⟨⟨dq, osq⟩, hw''⟩ := hw'
  subst hw''
  clear k0 k1 k2 k3 k4 k5
  have hTy := hTx.next (below_regrown W dq osq)
  clear QA QB QC hTx
  go_wp2_with fail
  go_ret
  exact ⟨by simp, hTy.b⟩
set_option maxRecDepth 100000 in
set_option maxHeartbeats 8000000 in
theorem total_msf (n : Nat) (A B C : Option Addr) (m ca cb cc : Nat) (f g h : Nat → Nat) (s t : Int) (w : World) (ha : Wds w A m f) (hb : Wds w B m g) (hc : Wds w C m h) (hT : Tab w) (hfew : ∀ k, k < 3 → pick3 m m m k ≤ 20) (va : Vld n m f) (vb : Vld n m g) (vc : Vld n m h) (hab : CmpB f g (64 * m) (-1)) (hbc : CmpB g h (64 * m) s) (hac : CmpB f h (64 * m) t) (hs : decide (s ≤ 0) = false) (hv : false = true ↔ Sub f g m) :
    Calls Tryd.prog 9 #[.agg #[.int .i64 n, .slice A m ca], .agg #[.int .i64 n, .slice B m cb], .agg #[.int .i64 n, .slice C m cc]] w fun e w' => e = .returned (.bool true) ∧ Below w.heap.size w w' := by
  have hm9' : m ≤ 1000 := by have h1 := va.2.1; have h2 := va.2.2.1; simp only [Int.toNat_natCast] at h2; omega
  have hba : CmpB g f (64 * m) (1) := cmpB_symm hab
  have DAB := Lib.hid (fun (w : World) (h1 : Wds w A m f) (h2 : Wds w B m g) => compare_any n A B m ca cb f g (-1) w h1 h2 va vb (cmpW_of ha.1 hb.1 hab))
  have DBA := Lib.hid (fun (w : World) (h1 : Wds w B m g) (h2 : Wds w A m f) => compare_any n B A m cb ca g f (1) w h1 h2 vb va (cmpW_of hb.1 ha.1 hba))
  have DBC := Lib.hid (fun (w : World) (h1 : Wds w B m g) (h2 : Wds w C m h) => compare_any n B C m cb cc g h s w h1 h2 vb vc (cmpW_of hb.1 hc.1 hbc))
  have DAC := Lib.hid (fun (w : World) (h1 : Wds w A m f) (h2 : Wds w C m h) => compare_any n A C m ca cc f h t w h1 h2 va vc (cmpW_of ha.1 hc.1 hac))
  have SAB := Lib.hid (same_of n m f g false hm9' ⟨(fun h => by cases h), fun h => absurd ((cmpB_zero hab).2 (bt_congr h)) (by decide)⟩ A B ca cb)
  have SUB := Lib.hid (fun (gu : Nat) => same_of n m (comb orW f g) g false hm9' (hv.trans (or_same ha.1 hb.1).symm) (some ⟨gu, 0, none⟩) B m cb)
  have IAU := Lib.hid (fun (gu : Nat) (w : World) (h1 : Wds w A m f) (h2 : Wds w (some ⟨gu, 0, none⟩) m (comb orW f g)) => subset_any n A (some ⟨gu, 0, none⟩) m ca m f (comb orW f g) m true w h1 h2 va (vld_or va vb) (Nat.le_refl _) ((sub_words ha.1 (u64_or ha.1 hb.1)).1 (sub_or f g m)) (Or.inl ⟨rfl, rfl⟩))
  have IAB := Lib.hid (subset_lit n A B m ca cb f g false hv ha.1 hb.1 va vb)
  have UU := Lib.hid (u64_or ha.1 hb.1)
  clear hab hba hbc hac hv
  have hm9 : m ≤ 9 := by have h1 := va.2.1; have h2 := va.2.2.1; simp only [Int.toNat_natCast] at h2; omega
  have UA := Lib.hid ha.1
  have UB := Lib.hid hb.1
  have UC := Lib.hid hc.1
  have HA := Lib.hid ha; clear ha
  have HB := Lib.hid hb; clear hb
  have HC := Lib.hid hc; clear hc
  have VA := Lib.hid va; clear va
  have VB := Lib.hid vb; clear vb
  have VC := Lib.hid vc; clear vc
  have HF := Lib.hid hfew; clear hfew
  have hT0 := tri_new w n n n A B C m ca m cb m cc
  go_enter Tryd.func9, Tryd.ntmps9
  go_wp2_with fail
  refine (awake_any _ (hT.below hT0.b)).mono ?_; rintro e w1 ⟨rfl, b1⟩
  have hT1 := hT0.next b1
  clear hT0 b1
  have c0 := hT1.s.c0
  have c1 := hT1.s.c1
  have d0 := hT1.t.c0
  have d1 := hT1.t.c1
  have e0 := hT1.u.c0
  have e1 := hT1.u.c1
  go_wp2_with fail
  clear c0 c1 d0 d1 e0 e1
  refine (few_yes w1.heap.size 3 _ _ _ _ _ (sets_three w1 n n n A B C m ca m cb m cc) (by decide) HF.out).mono ?_; rintro e w2 ⟨rfl, b2⟩
  have hT2 := hT1.next (((Below.refl _ _).alloc (Nat.le_refl _) _).trans (b2.mono (by simp)))
  clear hT1 b2
  have c0 := hT2.s.c0
  have c1 := hT2.s.c1
  have d0 := hT2.t.c0
  have d1 := hT2.t.c1
  have e0 := hT2.u.c0
  have e1 := hT2.u.c1
  go_wp2_with fail
  clear c0 c1 d0 d1 e0 e1
  refine (refCmp_yes _ _ _ _ _ _ _ _ _ _ (HA.out.below hT2.b) (HB.out.below hT2.b) VA.out VB.out).mono ?_; rintro e w3 ⟨rfl, b3⟩
  have hT3 := hT2.next b3
  clear hT2 b3
  have c0 := hT3.s.c0
  have c1 := hT3.s.c1
  have d0 := hT3.t.c0
  have d1 := hT3.t.c1
  have e0 := hT3.u.c0
  have e1 := hT3.u.c1
  go_wp2_with fail
  clear c0 c1 d0 d1 e0 e1
  refine (refCmp_yes _ _ _ _ _ _ _ _ _ _ (HB.out.below hT3.b) (HC.out.below hT3.b) VB.out VC.out).mono ?_; rintro e w4 ⟨rfl, b4⟩
  have hT4 := hT3.next b4
  clear hT3 b4
  have c0 := hT4.s.c0
  have c1 := hT4.s.c1
  have d0 := hT4.t.c0
  have d1 := hT4.t.c1
  go_wp2_with fail
  refine (DAB.out _ (HA.out.below hT4.b) (HB.out.below hT4.b)).mono ?_; rintro e w5 ⟨rfl, b5⟩
  clear c0 c1 d0 d1
  have hT5 := hT4.next b5
  clear hT4 b5
  have c0 := hT5.s.c0
  have c1 := hT5.s.c1
  have d0 := hT5.t.c0
  have d1 := hT5.t.c1
  go_wp2_with fail
  clear c0 c1 d0 d1
  refine (DBA.out _ (HB.out.below hT5.b) (HA.out.below hT5.b)).mono ?_; rintro e w6 ⟨rfl, b6⟩
  have hT6 := hT5.next b6
  clear hT5 b6
  have d0 := hT6.t.c0
  have d1 := hT6.t.c1
  have e0 := hT6.u.c0
  have e1 := hT6.u.c1
  go_wp2_with fail
  clear d0 d1 e0 e1
  refine (DBC.out _ (HB.out.below hT6.b) (HC.out.below hT6.b)).mono ?_; rintro e w7 ⟨rfl, b7⟩
  have hT7 := hT6.next b7
  clear hT6 b7
  have c0 := hT7.s.c0
  have c1 := hT7.s.c1
  have e0 := hT7.u.c0
  have e1 := hT7.u.c1
  go_wp2_with fail
  clear c0 c1 e0 e1
  refine (DAC.out _ (HA.out.below hT7.b) (HC.out.below hT7.b)).mono ?_; rintro e w8 ⟨rfl, b8⟩
  have hT8 := hT7.next b8
  clear hT7 b8
  have c0 := hT8.s.c0
  have c1 := hT8.s.c1
  have d0 := hT8.t.c0
  have d1 := hT8.t.c1
  go_wp2_with fail
  clear c0 c1 d0 d1
  refine (SAB.out _ (HA.out.below hT8.b) (HB.out.below hT8.b)).mono ?_; rintro e w9 ⟨rfl, b9⟩
  have hT9 := hT8.next b9
  clear hT8 b9
  have c0 := hT9.s.c0
  have c1 := hT9.s.c1
  have d0 := hT9.t.c0
  have d1 := hT9.t.c1
  go_wp2_with fail
  clear c0 c1 d0 d1
  refine (unionB_any n A B m ca cb f g _ (HA.out.below hT9.b) (HB.out.below hT9.b) VA.out VB.out).mono ?_; rintro e w10 ⟨gu, rfl, hgu, hru, b10⟩
  have hTx := (hT9.next b10).alloc (.cells #[.int .i64 n, .slice (some ⟨gu, 0, none⟩) m m] 24)
  have ux := setAt_new w10 n (some ⟨gu, 0, none⟩) m m
  have rux := hru.alloc (.cells #[.int .i64 n, .slice (some ⟨gu, 0, none⟩) m m] 24)
  clear hT9 b10 hru
  go_wp2_with fail
  generalize w10.heap.size = pu at *
  generalize w10.alloc (.cells #[.int .i64 n, .slice (some ⟨gu, 0, none⟩) m m] 24) = W at *
  have k0 := cell_regrown hTx.s.c0
  have k1 := cell_regrown hTx.s.c1
  have k2 := cell_regrown hTx.t.c0
  have k3 := cell_regrown hTx.t.c1
  have k4 := cell_regrown ux.c0
  have k5 := cell_regrown ux.c1
  have QA := Lib.hid (fun d os => Calls.regrown_of (IAU.out gu (grow (redrawn W d) os) (HA.out.below (below_next hTx.b (below_regrown W d os))) (row_wds (row_below rux (below_regrown W d os)) UU.out)))
  have QB := Lib.hid (fun d os => Calls.regrown_of (IAB.out (grow (redrawn W d) os) (HA.out.below (below_next hTx.b (below_regrown W d os))) (HB.out.below (below_next hTx.b (below_regrown W d os)))))
  have QC := Lib.hid (fun d os => Calls.regrown_of (SUB.out gu (grow (redrawn W d) os) (row_wds (row_below rux (below_regrown W d os)) UU.out) (HB.out.below (below_next hTx.b (below_regrown W d os)))))
  refine wp_region_quiet_below (by kernel_rfl) (by kernel_rfl) ?_
  repeat (first | go_big_quiet_step (first | with_reducible exact QA.out _ _ | with_reducible exact QB.out _ _ | with_reducible exact QC.out _ _) | quiet_step (first | with_reducible exact QA.out _ _ | with_reducible exact QB.out _ _ | with_reducible exact QC.out _ _))
  refine wpQuiet_nil ?_
  intro _ hw'
  obtain ⟨⟨dq, osq⟩, hw''⟩ := hw'
  subst hw''
  clear k0 k1 k2 k3 k4 k5
  have hTy := hTx.next (below_regrown W dq osq)
  clear QA QB QC hTx
  go_wp2_with fail
  go_ret
  exact ⟨by simp, hTy.b⟩
set_option maxRecDepth 100000 in
set_option maxHeartbeats 8000000 in
theorem total_mtf (n : Nat) (A B C : Option Addr) (m ca cb cc : Nat) (f g h : Nat → Nat) (s t : Int) (w : World) (ha : Wds w A m f) (hb : Wds w B m g) (hc : Wds w C m h) (hT : Tab w) (hfew : ∀ k, k < 3 → pick3 m m m k ≤ 20) (va : Vld n m f) (vb : Vld n m g) (vc : Vld n m h) (hab : CmpB f g (64 * m) (-1)) (hbc : CmpB g h (64 * m) s) (hac : CmpB f h (64 * m) t) (hs : decide (s ≤ 0) = true) (ht : decide (0 < t) = false) (hv : false = true ↔ Sub f g m) :
    Calls Tryd.prog 9 #[.agg #[.int .i64 n, .slice A m ca], .agg #[.int .i64 n, .slice B m cb], .agg #[.int .i64 n, .slice C m cc]] w fun e w' => e = .returned (.bool true) ∧ Below w.heap.size w w' := by
  have hm9' : m ≤ 1000 := by have h1 := va.2.1; have h2 := va.2.2.1; simp only [Int.toNat_natCast] at h2; omega
  have hba : CmpB g f (64 * m) (1) := cmpB_symm hab
  have DAB := Lib.hid (fun (w : World) (h1 : Wds w A m f) (h2 : Wds w B m g) => compare_any n A B m ca cb f g (-1) w h1 h2 va vb (cmpW_of ha.1 hb.1 hab))
  have DBA := Lib.hid (fun (w : World) (h1 : Wds w B m g) (h2 : Wds w A m f) => compare_any n B A m cb ca g f (1) w h1 h2 vb va (cmpW_of hb.1 ha.1 hba))
  have DBC := Lib.hid (fun (w : World) (h1 : Wds w B m g) (h2 : Wds w C m h) => compare_any n B C m cb cc g h s w h1 h2 vb vc (cmpW_of hb.1 hc.1 hbc))
  have DAC := Lib.hid (fun (w : World) (h1 : Wds w A m f) (h2 : Wds w C m h) => compare_any n A C m ca cc f h t w h1 h2 va vc (cmpW_of ha.1 hc.1 hac))
  have SAB := Lib.hid (same_of n m f g false hm9' ⟨(fun h => by cases h), fun h => absurd ((cmpB_zero hab).2 (bt_congr h)) (by decide)⟩ A B ca cb)
  have SUB := Lib.hid (fun (gu : Nat) => same_of n m (comb orW f g) g false hm9' (hv.trans (or_same ha.1 hb.1).symm) (some ⟨gu, 0, none⟩) B m cb)
  have IAU := Lib.hid (fun (gu : Nat) (w : World) (h1 : Wds w A m f) (h2 : Wds w (some ⟨gu, 0, none⟩) m (comb orW f g)) => subset_any n A (some ⟨gu, 0, none⟩) m ca m f (comb orW f g) m true w h1 h2 va (vld_or va vb) (Nat.le_refl _) ((sub_words ha.1 (u64_or ha.1 hb.1)).1 (sub_or f g m)) (Or.inl ⟨rfl, rfl⟩))
  have IAB := Lib.hid (subset_lit n A B m ca cb f g false hv ha.1 hb.1 va vb)
  have UU := Lib.hid (u64_or ha.1 hb.1)
  clear hab hba hbc hac hv
  have hm9 : m ≤ 9 := by have h1 := va.2.1; have h2 := va.2.2.1; simp only [Int.toNat_natCast] at h2; omega
  have UA := Lib.hid ha.1
  have UB := Lib.hid hb.1
  have UC := Lib.hid hc.1
  have HA := Lib.hid ha; clear ha
  have HB := Lib.hid hb; clear hb
  have HC := Lib.hid hc; clear hc
  have VA := Lib.hid va; clear va
  have VB := Lib.hid vb; clear vb
  have VC := Lib.hid vc; clear vc
  have HF := Lib.hid hfew; clear hfew
  have hT0 := tri_new w n n n A B C m ca m cb m cc
  go_enter Tryd.func9, Tryd.ntmps9
  go_wp2_with fail
  refine (awake_any _ (hT.below hT0.b)).mono ?_; rintro e w1 ⟨rfl, b1⟩
  have hT1 := hT0.next b1
  clear hT0 b1
  have c0 := hT1.s.c0
  have c1 := hT1.s.c1
  have d0 := hT1.t.c0
  have d1 := hT1.t.c1
  have e0 := hT1.u.c0
  have e1 := hT1.u.c1
  go_wp2_with fail
  clear c0 c1 d0 d1 e0 e1
  refine (few_yes w1.heap.size 3 _ _ _ _ _ (sets_three w1 n n n A B C m ca m cb m cc) (by decide) HF.out).mono ?_; rintro e w2 ⟨rfl, b2⟩
  have hT2 := hT1.next (((Below.refl _ _).alloc (Nat.le_refl _) _).trans (b2.mono (by simp)))
  clear hT1 b2
  have c0 := hT2.s.c0
  have c1 := hT2.s.c1
  have d0 := hT2.t.c0
  have d1 := hT2.t.c1
  have e0 := hT2.u.c0
  have e1 := hT2.u.c1
  go_wp2_with fail
  clear c0 c1 d0 d1 e0 e1
  refine (refCmp_yes _ _ _ _ _ _ _ _ _ _ (HA.out.below hT2.b) (HB.out.below hT2.b) VA.out VB.out).mono ?_; rintro e w3 ⟨rfl, b3⟩
  have hT3 := hT2.next b3
  clear hT2 b3
  have c0 := hT3.s.c0
  have c1 := hT3.s.c1
  have d0 := hT3.t.c0
  have d1 := hT3.t.c1
  have e0 := hT3.u.c0
  have e1 := hT3.u.c1
  go_wp2_with fail
  clear c0 c1 d0 d1 e0 e1
  refine (refCmp_yes _ _ _ _ _ _ _ _ _ _ (HB.out.below hT3.b) (HC.out.below hT3.b) VB.out VC.out).mono ?_; rintro e w4 ⟨rfl, b4⟩
  have hT4 := hT3.next b4
  clear hT3 b4
  have c0 := hT4.s.c0
  have c1 := hT4.s.c1
  have d0 := hT4.t.c0
  have d1 := hT4.t.c1
  go_wp2_with fail
  refine (DAB.out _ (HA.out.below hT4.b) (HB.out.below hT4.b)).mono ?_; rintro e w5 ⟨rfl, b5⟩
  clear c0 c1 d0 d1
  have hT5 := hT4.next b5
  clear hT4 b5
  have c0 := hT5.s.c0
  have c1 := hT5.s.c1
  have d0 := hT5.t.c0
  have d1 := hT5.t.c1
  go_wp2_with fail
  clear c0 c1 d0 d1
  refine (DBA.out _ (HB.out.below hT5.b) (HA.out.below hT5.b)).mono ?_; rintro e w6 ⟨rfl, b6⟩
  have hT6 := hT5.next b6
  clear hT5 b6
  have d0 := hT6.t.c0
  have d1 := hT6.t.c1
  have e0 := hT6.u.c0
  have e1 := hT6.u.c1
  go_wp2_with fail
  clear d0 d1 e0 e1
  refine (DBC.out _ (HB.out.below hT6.b) (HC.out.below hT6.b)).mono ?_; rintro e w7 ⟨rfl, b7⟩
  have hT7 := hT6.next b7
  clear hT6 b7
  have c0 := hT7.s.c0
  have c1 := hT7.s.c1
  have e0 := hT7.u.c0
  have e1 := hT7.u.c1
  go_wp2_with fail
  clear c0 c1 e0 e1
  refine (DAC.out _ (HA.out.below hT7.b) (HC.out.below hT7.b)).mono ?_; rintro e w8 ⟨rfl, b8⟩
  have hT8 := hT7.next b8
  clear hT7 b8
  have c0 := hT8.s.c0
  have c1 := hT8.s.c1
  have d0 := hT8.t.c0
  have d1 := hT8.t.c1
  go_wp2_with fail
  clear c0 c1 d0 d1
  refine (SAB.out _ (HA.out.below hT8.b) (HB.out.below hT8.b)).mono ?_; rintro e w9 ⟨rfl, b9⟩
  have hT9 := hT8.next b9
  clear hT8 b9
  have c0 := hT9.s.c0
  have c1 := hT9.s.c1
  have d0 := hT9.t.c0
  have d1 := hT9.t.c1
  go_wp2_with fail
  clear c0 c1 d0 d1
  refine (unionB_any n A B m ca cb f g _ (HA.out.below hT9.b) (HB.out.below hT9.b) VA.out VB.out).mono ?_; rintro e w10 ⟨gu, rfl, hgu, hru, b10⟩
  have hTx := (hT9.next b10).alloc (.cells #[.int .i64 n, .slice (some ⟨gu, 0, none⟩) m m] 24)
  have ux := setAt_new w10 n (some ⟨gu, 0, none⟩) m m
  have rux := hru.alloc (.cells #[.int .i64 n, .slice (some ⟨gu, 0, none⟩) m m] 24)
  clear hT9 b10 hru
  go_wp2_with fail
  generalize w10.heap.size = pu at *
  generalize w10.alloc (.cells #[.int .i64 n, .slice (some ⟨gu, 0, none⟩) m m] 24) = W at *
  have k0 := cell_regrown hTx.s.c0
  have k1 := cell_regrown hTx.s.c1
  have k2 := cell_regrown hTx.t.c0
  have k3 := cell_regrown hTx.t.c1
  have k4 := cell_regrown ux.c0
  have k5 := cell_regrown ux.c1
  have QA := Lib.hid (fun d os => Calls.regrown_of (IAU.out gu (grow (redrawn W d) os) (HA.out.below (below_next hTx.b (below_regrown W d os))) (row_wds (row_below rux (below_regrown W d os)) UU.out)))
  have QB := Lib.hid (fun d os => Calls.regrown_of (IAB.out (grow (redrawn W d) os) (HA.out.below (below_next hTx.b (below_regrown W d os))) (HB.out.below (below_next hTx.b (below_regrown W d os)))))
  have QC := Lib.hid (fun d os => Calls.regrown_of (SUB.out gu (grow (redrawn W d) os) (row_wds (row_below rux (below_regrown W d os)) UU.out) (HB.out.below (below_next hTx.b (below_regrown W d os)))))
  refine wp_region_quiet_below (by kernel_rfl) (by kernel_rfl) ?_
  repeat (first | go_big_quiet_step (first | with_reducible exact QA.out _ _ | with_reducible exact QB.out _ _ | with_reducible exact QC.out _ _) | quiet_step (first | with_reducible exact QA.out _ _ | with_reducible exact QB.out _ _ | with_reducible exact QC.out _ _))
  refine wpQuiet_nil ?_
  intro _ hw'
  obtain ⟨⟨dq, osq⟩, hw''⟩ := hw'
  subst hw''
  clear k0 k1 k2 k3 k4 k5
  have hTy := hTx.next (below_regrown W dq osq)
  clear QA QB QC hTx
  go_wp2_with fail
  go_ret
  exact ⟨by simp, hTy.b⟩
theorem total_yes (n : Nat) (A B C : Option Addr) (m ca cb cc : Nat) (f g h : Nat → Nat) (w : World) (ha : Wds w A m f) (hb : Wds w B m g) (hc : Wds w C m h) (hT : Tab w) (hfew : ∀ k, k < 3 → pick3 m m m k ≤ 20) (va : Vld n m f) (vb : Vld n m g) (vc : Vld n m h) :
    Calls Tryd.prog 9 #[.agg #[.int .i64 n, .slice A m ca], .agg #[.int .i64 n, .slice B m cb], .agg #[.int .i64 n, .slice C m cc]] w fun e w' => e = .returned (.bool true) ∧ Below w.heap.size w w' := by
  obtain ⟨r, hr⟩ := cmpB_ex f g (64 * m)
  obtain ⟨s, hs⟩ := cmpB_ex g h (64 * m)
  obtain ⟨t, ht⟩ := cmpB_ex f h (64 * m)
  have hsub : ¬ r ≤ 0 → (false = true ↔ Sub f g m) := fun h0 => ⟨(fun h => by cases h), fun h => absurd (cmpB_sub hr h) h0⟩
  have hz : r = 0 → (true = true ↔ Sub f g m) := fun h0 => ⟨fun _ i hi hb => by rw [← (cmpB_zero hr).1 h0 i hi]; exact hb, fun _ => rfl⟩
  have hsd : decide (s ≤ 0) = false ∨ (decide (s ≤ 0) = true) := by cases decide (s ≤ 0) <;> simp
  have htd : r ≤ 0 → decide (s ≤ 0) = true → decide (0 < t) = false := fun h0 h1 => decide_eq_false (by have := cmpB_trans hr hs ht h0 (of_decide_eq_true h1); omega)
  have hrr := cmpB_range hr
  have h3 : r = 1 ∨ r = 0 ∨ r = -1 := by omega
  rcases h3 with rfl | rfl | rfl
  · exact total_p n A B C m ca cb cc f g h s t w ha hb hc hT hfew va vb vc hr hs ht (hsub (by decide))
  · rcases hsd with h1 | h1
    · exact total_zs n A B C m ca cb cc f g h s t w ha hb hc hT hfew va vb vc hr hs ht h1 (hz rfl)
    · exact total_zt n A B C m ca cb cc f g h s t w ha hb hc hT hfew va vb vc hr hs ht h1 (htd (by decide) h1) (hz rfl)
  · by_cases hv : Sub f g m
    · rcases hsd with h1 | h1
      · exact total_mst n A B C m ca cb cc f g h s t w ha hb hc hT hfew va vb vc hr hs ht h1 ⟨fun _ => hv, fun _ => rfl⟩
      · exact total_mtt n A B C m ca cb cc f g h s t w ha hb hc hT hfew va vb vc hr hs ht h1 (htd (by decide) h1) ⟨fun _ => hv, fun _ => rfl⟩
    · rcases hsd with h1 | h1
      · exact total_msf n A B C m ca cb cc f g h s t w ha hb hc hT hfew va vb vc hr hs ht h1 ⟨(fun h => by cases h), fun h => absurd h hv⟩
      · exact total_mtf n A B C m ca cb cc f g h s t w ha hb hc hT hfew va vb vc hr hs ht h1 (htd (by decide) h1) ⟨(fun h => by cases h), fun h => absurd h hv⟩
theorem total_law (N : Int) (A : Option Addr) (la ca : Nat) (f : Nat → Nat) (M : Int) (B : Option Addr) (lb cb : Nat) (g : Nat → Nat) (K : Int) (C : Option Addr) (lc cc : Nat) (h : Nat → Nat) (w : World) (ha : Wds w A la f) (hb : Wds w B lb g) (hc : Wds w C lc h) (hT : Tab w) :
    Calls Tryd.prog 9 #[.agg #[.int .i64 N, .slice A la ca], .agg #[.int .i64 M, .slice B lb cb], .agg #[.int .i64 K, .slice C lc cc]] w fun e w' => e = .returned (.bool true) ∧ Below w.heap.size w w' := by
  rcases big_or (pick3 la lb lc) 3 with hfew | hbig
  · by_cases h1 : Vld N la f ∧ Vld M lb g ∧ N = M
    · by_cases h2 : Vld M lb g ∧ Vld K lc h ∧ M = K
      · obtain ⟨va, vb, rfl⟩ := h1
        obtain ⟨_, vc, rfl⟩ := h2
        obtain ⟨n, rfl⟩ := Int.eq_ofNat_of_zero_le va.1
        obtain rfl : la = lb := va.2.2.1.trans vb.2.2.1.symm
        obtain rfl : la = lc := va.2.2.1.trans vc.2.2.1.symm
        exact total_yes n A B C la ca cb cc f g h w ha hb hc hT hfew va vb vc
      · exact total_no2 N M K A B C la ca lb cb lc cc f g h w ha hb hc hT hfew h1.1 h1.2.1 h1.2.2 h2
    · exact total_no1 N M K A B C la ca lb cb lc cc f g h w ha hb hc hT hfew h1
  · exact total_big N M K A B C la ca lb cb lc cc w hT hbig
end Go.Proofs.YtijghglppgihmaaDoor
