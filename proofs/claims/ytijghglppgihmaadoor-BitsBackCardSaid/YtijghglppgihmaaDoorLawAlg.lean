/- BitsAlgebra: the law's own text, walked: it returns true for every three sets. -/
import Derived.Test.YtijghglppgihmaaDoorLaw3
namespace Go.Proofs.YtijghglppgihmaaDoor
open Go.RowKit Go.Sort
/- a boxed set, and its words -/
structure RowAt (wr : World) (p : Nat) (n : Nat) (g m : Nat) (F : Nat → Nat) : Prop where
  s : SetAt wr p n (some ⟨g, 0, none⟩) m m
  r : wr.rowIs g 54 m (fun k => .int .u64 (F k : Nat))
section
variable {wr w2 : World} {p n g m : Nat} {F : Nat → Nat}
theorem RowAt.next (h : RowAt wr p n g m F) (b : Below wr.heap.size wr w2) : RowAt w2 p n g m F := ⟨h.s.below b, row_below h.r b⟩
theorem RowAt.alloc (h : RowAt wr p n g m F) (o : Obj) : RowAt (wr.alloc o) p n g m F := ⟨h.s.alloc o, h.r.alloc o⟩
theorem RowAt.wds (h : RowAt wr p n g m F) (hu : U64 F m) : Wds wr (some ⟨g, 0, none⟩) m F := row_wds h.r hu
theorem rowAt_new (w : World) (n g m : Nat) (F : Nat → Nat) (h : w.rowIs g 54 m (fun k => .int .u64 (F k : Nat))) :
    RowAt (w.alloc (.cells #[.int .i64 n, .slice (some ⟨g, 0, none⟩) m m] 24)) w.heap.size n g m F := ⟨setAt_new w n _ m m, h.alloc _⟩
end
theorem wrap_small (x : Int) (h1 : -10000 ≤ x) (h2 : x ≤ 10000) : IntKind.i64.wrap x = x := by
  rw [IntKind.wrap_i64]; omega
theorem alg_nums (f g : Nat → Nat) (m : Nat) (hg : U64 g m) (hm : m ≤ 9) :
    IntKind.i64.wrap ((cnt f m : Int) + (cnt g m : Int)) = (cnt f m : Int) + (cnt g m : Int) ∧
    IntKind.i64.wrap ((cnt f m : Int) + (cnt g m : Int) - (cnt (comb andW f g) m : Int)) = (cnt f m : Int) + (cnt g m : Int) - (cnt (comb andW f g) m : Int) ∧
    IntKind.i64.wrap ((cnt (comb andNot f g) m : Int) + (cnt (comb andW f g) m : Int)) = (cnt (comb andNot f g) m : Int) + (cnt (comb andW f g) m : Int) ∧
    ((cnt (comb orW f g) m : Int) == (cnt f m : Int) + (cnt g m : Int) - (cnt (comb andW f g) m : Int)) = true ∧
    ((cnt f m : Int) == (cnt (comb andNot f g) m : Int) + (cnt (comb andW f g) m : Int)) = true := by
  have h1 := cnt_or_and f g m
  have h2 := cnt_not_and f g m hg
  have b1 := cnt_le f m
  have b2 := cnt_le g m
  refine ⟨wrap_small _ ?_ ?_, wrap_small _ ?_ ?_, wrap_small _ ?_ ?_, beq_iff_eq.2 ?_, beq_iff_eq.2 ?_⟩ <;> omega
set_option maxRecDepth 100000 in
set_option maxHeartbeats 8000000 in
theorem algebra_big (N M K : Int) (A B C : Option Addr) (la ca lb cb lc cc : Nat) (w : World) (hT : Tab w) (hbig : Big (pick3 la lb lc) 3) :
    Calls Tryd.prog 8 #[.agg #[.int .i64 N, .slice A la ca], .agg #[.int .i64 M, .slice B lb cb], .agg #[.int .i64 K, .slice C lc cc]] w fun e w' => e = .returned (.bool true) ∧ Below w.heap.size w w' := by
  obtain ⟨J, hz, hJ⟩ := hbig
  have HZ := Lib.hid hz; clear hz
  have HJ := Lib.hid hJ; clear hJ
  have hT0 := tri_new w N M K A B C la ca lb cb lc cc
  go_enter Tryd.func8, Tryd.ntmps8
  go_wp2_with fail
  refine (awake_any _ (hT.below hT0.b)).mono ?_; rintro e w1 ⟨rfl, b1⟩
  have hT1 := hT0.next b1
  clear hT0 b1
  have c0 := hT1.s.c0
  have c1 := hT1.s.c1
  have d0 := hT1.t.c0
  have d1 := hT1.t.c1
  have e0 := hT1.u.c0
  have e1 := hT1.u.c1
  go_wp2_with fail
  clear c0 c1 d0 d1 e0 e1
  refine (few_no w1.heap.size 3 _ _ _ _ J _ (sets_three w1 N M K A B C la ca lb cb lc cc) (by decide) HZ.out HJ.out).mono ?_; rintro e w2 ⟨rfl, b2⟩
  have hT2 := hT1.next (((Below.refl _ _).alloc (Nat.le_refl _) _).trans (b2.mono (by simp)))
  clear hT1 b2
  go_wp2_with fail
  refine (awake_any _ (hT.below hT2.b)).mono ?_; rintro e w3 ⟨rfl, b3⟩
  go_wp2_with fail
  go_ret
  exact ⟨rfl, (hT2.next b3).b⟩
set_option maxRecDepth 100000 in
set_option maxHeartbeats 8000000 in
theorem algebra_no1 (N M K : Int) (A B C : Option Addr) (la ca lb cb lc cc : Nat) (f g h : Nat → Nat) (w : World) (ha : Wds w A la f) (hb : Wds w B lb g) (_hc : Wds w C lc h) (hT : Tab w) (hfew : ∀ k, k < 3 → pick3 la lb lc k ≤ 20) (h1 : ¬ (Vld N la f ∧ Vld M lb g ∧ N = M)) :
    Calls Tryd.prog 8 #[.agg #[.int .i64 N, .slice A la ca], .agg #[.int .i64 M, .slice B lb cb], .agg #[.int .i64 K, .slice C lc cc]] w fun e w' => e = .returned (.bool true) ∧ Below w.heap.size w w' := by
  have HA := Lib.hid ha; clear ha
  have HB := Lib.hid hb; clear hb
  have HF := Lib.hid hfew; clear hfew
  have H1 := Lib.hid h1; clear h1 _hc
  have hT0 := tri_new w N M K A B C la ca lb cb lc cc
  go_enter Tryd.func8, Tryd.ntmps8
  go_wp2_with fail
  refine (awake_any _ (hT.below hT0.b)).mono ?_; rintro e w1 ⟨rfl, b1⟩
  have hT1 := hT0.next b1
  clear hT0 b1
  have c0 := hT1.s.c0
  have c1 := hT1.s.c1
  have d0 := hT1.t.c0
  have d1 := hT1.t.c1
  have e0 := hT1.u.c0
  have e1 := hT1.u.c1
  go_wp2_with fail
  clear c0 c1 d0 d1 e0 e1
  refine (few_yes w1.heap.size 3 _ _ _ _ _ (sets_three w1 N M K A B C la ca lb cb lc cc) (by decide) HF.out).mono ?_; rintro e w2 ⟨rfl, b2⟩
  have hT2 := hT1.next (((Below.refl _ _).alloc (Nat.le_refl _) _).trans (b2.mono (by simp)))
  clear hT1 b2
  have c0 := hT2.s.c0
  have c1 := hT2.s.c1
  have d0 := hT2.t.c0
  have d1 := hT2.t.c1
  have e0 := hT2.u.c0
  have e1 := hT2.u.c1
  go_wp2_with fail
  clear c0 c1 d0 d1 e0 e1
  refine (refCmp_no _ _ _ _ _ _ _ _ _ _ _ (HA.out.below hT2.b) (HB.out.below hT2.b) H1.out).mono ?_; rintro e w3 ⟨rfl, b3⟩
  have hT3 := hT2.next b3
  clear hT2 b3
  go_wp2_with fail
  refine (awake_any _ (hT.below hT3.b)).mono ?_; rintro e w4 ⟨rfl, b4⟩
  go_wp2_with fail
  go_ret
  exact ⟨rfl, (hT3.next b4).b⟩
set_option maxRecDepth 100000 in
set_option maxHeartbeats 8000000 in
theorem algebra_no2 (N M K : Int) (A B C : Option Addr) (la ca lb cb lc cc : Nat) (f g h : Nat → Nat) (w : World) (ha : Wds w A la f) (hb : Wds w B lb g) (hc : Wds w C lc h) (hT : Tab w) (hfew : ∀ k, k < 3 → pick3 la lb lc k ≤ 20) (va : Vld N la f) (vb : Vld M lb g) (he : N = M) (h2 : ¬ (Vld M lb g ∧ Vld K lc h ∧ M = K)) :
    Calls Tryd.prog 8 #[.agg #[.int .i64 N, .slice A la ca], .agg #[.int .i64 M, .slice B lb cb], .agg #[.int .i64 K, .slice C lc cc]] w fun e w' => e = .returned (.bool true) ∧ Below w.heap.size w w' := by
  subst he
  have HA := Lib.hid ha; clear ha
  have HB := Lib.hid hb; clear hb
  have HC := Lib.hid hc; clear hc
  have VA := Lib.hid va; clear va
  have VB := Lib.hid vb; clear vb
  have HF := Lib.hid hfew; clear hfew
  have H2 := Lib.hid h2; clear h2
  have hT0 := tri_new w N N K A B C la ca lb cb lc cc
  go_enter Tryd.func8, Tryd.ntmps8
  go_wp2_with fail
  refine (awake_any _ (hT.below hT0.b)).mono ?_; rintro e w1 ⟨rfl, b1⟩
  have hT1 := hT0.next b1
  clear hT0 b1
  have c0 := hT1.s.c0
  have c1 := hT1.s.c1
  have d0 := hT1.t.c0
  have d1 := hT1.t.c1
  have e0 := hT1.u.c0
  have e1 := hT1.u.c1
  go_wp2_with fail
  clear c0 c1 d0 d1 e0 e1
  refine (few_yes w1.heap.size 3 _ _ _ _ _ (sets_three w1 N N K A B C la ca lb cb lc cc) (by decide) HF.out).mono ?_; rintro e w2 ⟨rfl, b2⟩
  have hT2 := hT1.next (((Below.refl _ _).alloc (Nat.le_refl _) _).trans (b2.mono (by simp)))
  clear hT1 b2
  have c0 := hT2.s.c0
  have c1 := hT2.s.c1
  have d0 := hT2.t.c0
  have d1 := hT2.t.c1
  have e0 := hT2.u.c0
  have e1 := hT2.u.c1
  go_wp2_with fail
  clear c0 c1 d0 d1 e0 e1
  refine (refCmp_yes _ _ _ _ _ _ _ _ _ _ (HA.out.below hT2.b) (HB.out.below hT2.b) VA.out VB.out).mono ?_; rintro e w3 ⟨rfl, b3⟩
  have hT3 := hT2.next b3
  clear hT2 b3
  have c0 := hT3.s.c0
  have c1 := hT3.s.c1
  have d0 := hT3.t.c0
  have d1 := hT3.t.c1
  have e0 := hT3.u.c0
  have e1 := hT3.u.c1
  go_wp2_with fail
  clear c0 c1 d0 d1 e0 e1
  refine (refCmp_no _ _ _ _ _ _ _ _ _ _ _ (HB.out.below hT3.b) (HC.out.below hT3.b) H2.out).mono ?_; rintro e w4 ⟨rfl, b4⟩
  have hT4 := hT3.next b4
  clear hT3 b4
  go_wp2_with fail
  refine (awake_any _ (hT.below hT4.b)).mono ?_; rintro e w5 ⟨rfl, b5⟩
  go_wp2_with fail
  go_ret
  exact ⟨rfl, (hT4.next b5).b⟩
set_option maxRecDepth 100000 in
set_option maxHeartbeats 8000000 in
theorem algebra_yes (n : Nat) (A B C : Option Addr) (m ca cb cc : Nat) (f g h : Nat → Nat) (w : World) (ha : Wds w A m f) (hb : Wds w B m g) (hc : Wds w C m h) (hT : Tab w) (hfew : ∀ k, k < 3 → pick3 m m m k ≤ 20) (va : Vld n m f) (vb : Vld n m g) (vc : Vld n m h) :
    Calls Tryd.prog 8 #[.agg #[.int .i64 n, .slice A m ca], .agg #[.int .i64 n, .slice B m cb], .agg #[.int .i64 n, .slice C m cc]] w fun e w' => e = .returned (.bool true) ∧ Below w.heap.size w w' := by
  have hm9' : m ≤ 1000 := by have h1 := va.2.1; have h2 := va.2.2.1; simp only [Int.toNat_natCast] at h2; omega
  have hm9 : m ≤ 9 := by have h1 := va.2.1; have h2 := va.2.2.1; simp only [Int.toNat_natCast] at h2; omega
  have UA := Lib.hid ha.1
  have UB := Lib.hid hb.1
  have UC := Lib.hid hc.1
  have HA := Lib.hid ha; clear ha
  have HB := Lib.hid hb; clear hb
  have HC := Lib.hid hc; clear hc
  have VA := Lib.hid va; clear va
  have VB := Lib.hid vb; clear vb
  have VC := Lib.hid vc; clear vc
  have HF := Lib.hid hfew; clear hfew
  have Ubc := Lib.hid (u64_or UB.out UC.out)
  have Vbc := Lib.hid (vld_or VB.out VC.out)
  have Ux := Lib.hid (u64_and' (g := comb orW g h) UA.out)
  have Vx := Lib.hid (vld_and (g := comb orW g h) VA.out)
  have Uab := Lib.hid (u64_and' (g := g) UA.out)
  have Vab := Lib.hid (vld_and (g := g) VA.out)
  have Uac := Lib.hid (u64_and' (g := h) UA.out)
  have Vac := Lib.hid (vld_and (g := h) VA.out)
  have Uy := Lib.hid (u64_or Uab.out Uac.out)
  have Vy := Lib.hid (vld_or Vab.out Vac.out)
  have Up := Lib.hid (u64_not (g := comb orW g h) UA.out)
  have Vp := Lib.hid (vld_not VA.out Ubc.out)
  have Uq := Lib.hid (u64_not (g := g) UA.out)
  have Vq := Lib.hid (vld_not VA.out UB.out)
  have Ur := Lib.hid (u64_not (g := h) UA.out)
  have Vr := Lib.hid (vld_not VA.out UC.out)
  have Us := Lib.hid (u64_and' (g := comb andNot f h) Uq.out)
  have Vs := Lib.hid (vld_and (g := comb andNot f h) Vq.out)
  have Uu := Lib.hid (u64_or UA.out UB.out)
  have Vu := Lib.hid (vld_or VA.out VB.out)
  have SXY := Lib.hid (fun (gx gy : Nat) => same_of n m (comb andW f (comb orW g h)) (comb orW (comb andW f g) (comb andW f h)) true hm9' ⟨fun _ k _ => words_dist f g h k, fun _ => rfl⟩ (some ⟨gx, 0, none⟩) (some ⟨gy, 0, none⟩) m m)
  have SPS := Lib.hid (fun (gp gs : Nat) => same_of n m (comb andNot f (comb orW g h)) (comb andW (comb andNot f g) (comb andNot f h)) true hm9' ⟨fun _ => words_morgan UA.out UB.out UC.out, fun _ => rfl⟩ (some ⟨gp, 0, none⟩) (some ⟨gs, 0, none⟩) m m)
  have hT0 := tri_new w n n n A B C m ca m cb m cc
  go_enter Tryd.func8, Tryd.ntmps8
  go_wp2_with fail
  refine (awake_any _ (hT.below hT0.b)).mono ?_; rintro e w1 ⟨rfl, b1⟩
  have hT1 := hT0.next b1
  clear hT0 b1
  have c0 := hT1.s.c0
  have c1 := hT1.s.c1
  have d0 := hT1.t.c0
  have d1 := hT1.t.c1
  have e0 := hT1.u.c0
  have e1 := hT1.u.c1
  go_wp2_with fail
  clear c0 c1 d0 d1 e0 e1
  refine (few_yes w1.heap.size 3 _ _ _ _ _ (sets_three w1 n n n A B C m ca m cb m cc) (by decide) HF.out).mono ?_; rintro e w2 ⟨rfl, b2⟩
  have hT2 := hT1.next (((Below.refl _ _).alloc (Nat.le_refl _) _).trans (b2.mono (by simp)))
  clear hT1 b2
  have c0 := hT2.s.c0
  have c1 := hT2.s.c1
  have d0 := hT2.t.c0
  have d1 := hT2.t.c1
  have e0 := hT2.u.c0
  have e1 := hT2.u.c1
  go_wp2_with fail
  clear c0 c1 d0 d1 e0 e1
  refine (refCmp_yes _ _ _ _ _ _ _ _ _ _ (HA.out.below hT2.b) (HB.out.below hT2.b) VA.out VB.out).mono ?_; rintro e w3 ⟨rfl, b3⟩
  have hT3 := hT2.next b3
  clear hT2 b3
  have c0 := hT3.s.c0
  have c1 := hT3.s.c1
  have d0 := hT3.t.c0
  have d1 := hT3.t.c1
  have e0 := hT3.u.c0
  have e1 := hT3.u.c1
  go_wp2_with fail
  clear c0 c1 d0 d1 e0 e1
  refine (refCmp_yes _ _ _ _ _ _ _ _ _ _ (HB.out.below hT3.b) (HC.out.below hT3.b) VB.out VC.out).mono ?_; rintro e w4 ⟨rfl, b4⟩
  have hT4 := hT3.next b4
  clear hT3 b4
  have c0 := hT4.t.c0
  have c1 := hT4.t.c1
  have d0 := hT4.u.c0
  have d1 := hT4.u.c1
  go_wp2_with fail
  clear c0 c1 d0 d1
  refine (unionB_any n B C m cb cc g h _ (HB.out.below hT4.b) (HC.out.below hT4.b) VB.out VC.out).mono ?_; rintro e w5 ⟨gbc, rfl, hgbc, hrbc, b5⟩
  have hT5 := (hT4.next b5).alloc (.cells #[.int .i64 n, .slice (some ⟨gbc, 0, none⟩) m m] 24)
  have Rbc := rowAt_new w5 n gbc m _ hrbc
  clear hT4 b5 hgbc hrbc
  have c0 := hT5.s.c0
  have c1 := hT5.s.c1
  have d0 := Rbc.s.c0
  have d1 := Rbc.s.c1
  go_wp2_with fail
  clear c0 c1 d0 d1
  generalize w5.heap.size = pbc at *
  generalize w5.alloc (.cells #[.int .i64 n, .slice (some ⟨gbc, 0, none⟩) m m] 24) = Wbc at *
  refine (interB_any n A (some ⟨gbc, 0, none⟩) m ca m f (comb orW g h) _ (HA.out.below hT5.b) (Rbc.wds Ubc.out) VA.out Vbc.out).mono ?_; rintro e w6 ⟨gx, rfl, hgx, hrx, b6⟩
  have hT6 := (hT5.next b6).alloc (.cells #[.int .i64 n, .slice (some ⟨gx, 0, none⟩) m m] 24)
  replace Rbc := (Rbc.next b6).alloc (.cells #[.int .i64 n, .slice (some ⟨gx, 0, none⟩) m m] 24)
  have Rx := rowAt_new w6 n gx m _ hrx
  clear hT5 b6 hgx hrx
  have c0 := hT6.s.c0
  have c1 := hT6.s.c1
  have d0 := hT6.t.c0
  have d1 := hT6.t.c1
  go_wp2_with fail
  clear c0 c1 d0 d1
  generalize w6.heap.size = px at *
  generalize w6.alloc (.cells #[.int .i64 n, .slice (some ⟨gx, 0, none⟩) m m] 24) = Wx at *
  refine (interB_any n A B m ca cb f g _ (HA.out.below hT6.b) (HB.out.below hT6.b) VA.out VB.out).mono ?_; rintro e w7 ⟨gab, rfl, hgab, hrab, b7⟩
  have hT7 := (hT6.next b7).alloc (.cells #[.int .i64 n, .slice (some ⟨gab, 0, none⟩) m m] 24)
  replace Rbc := (Rbc.next b7).alloc (.cells #[.int .i64 n, .slice (some ⟨gab, 0, none⟩) m m] 24)
  replace Rx := (Rx.next b7).alloc (.cells #[.int .i64 n, .slice (some ⟨gab, 0, none⟩) m m] 24)
  have Rab := rowAt_new w7 n gab m _ hrab
  clear hT6 b7 hgab hrab
  have c0 := hT7.s.c0
  have c1 := hT7.s.c1
  have d0 := hT7.u.c0
  have d1 := hT7.u.c1
  go_wp2_with fail
  clear c0 c1 d0 d1
  generalize w7.heap.size = pab at *
  generalize w7.alloc (.cells #[.int .i64 n, .slice (some ⟨gab, 0, none⟩) m m] 24) = Wab at *
  refine (interB_any n A C m ca cc f h _ (HA.out.below hT7.b) (HC.out.below hT7.b) VA.out VC.out).mono ?_; rintro e w8 ⟨gac, rfl, hgac, hrac, b8⟩
  have hT8 := (hT7.next b8).alloc (.cells #[.int .i64 n, .slice (some ⟨gac, 0, none⟩) m m] 24)
  replace Rbc := (Rbc.next b8).alloc (.cells #[.int .i64 n, .slice (some ⟨gac, 0, none⟩) m m] 24)
  replace Rx := (Rx.next b8).alloc (.cells #[.int .i64 n, .slice (some ⟨gac, 0, none⟩) m m] 24)
  replace Rab := (Rab.next b8).alloc (.cells #[.int .i64 n, .slice (some ⟨gac, 0, none⟩) m m] 24)
  have Rac := rowAt_new w8 n gac m _ hrac
  clear hT7 b8 hgac hrac
  have c0 := Rab.s.c0
  have c1 := Rab.s.c1
  have d0 := Rac.s.c0
  have d1 := Rac.s.c1
  go_wp2_with fail
  clear c0 c1 d0 d1
  generalize w8.heap.size = pac at *
  generalize w8.alloc (.cells #[.int .i64 n, .slice (some ⟨gac, 0, none⟩) m m] 24) = Wac at *
  refine (unionB_any n (some ⟨gab, 0, none⟩) (some ⟨gac, 0, none⟩) m m m (comb andW f g) (comb andW f h) _ (Rab.wds Uab.out) (Rac.wds Uac.out) Vab.out Vac.out).mono ?_; rintro e w9 ⟨gy, rfl, hgy, hry, b9⟩
  have hT9 := (hT8.next b9).alloc (.cells #[.int .i64 n, .slice (some ⟨gy, 0, none⟩) m m] 24)
  replace Rbc := (Rbc.next b9).alloc (.cells #[.int .i64 n, .slice (some ⟨gy, 0, none⟩) m m] 24)
  replace Rx := (Rx.next b9).alloc (.cells #[.int .i64 n, .slice (some ⟨gy, 0, none⟩) m m] 24)
  replace Rab := (Rab.next b9).alloc (.cells #[.int .i64 n, .slice (some ⟨gy, 0, none⟩) m m] 24)
  replace Rac := (Rac.next b9).alloc (.cells #[.int .i64 n, .slice (some ⟨gy, 0, none⟩) m m] 24)
  have Ry := rowAt_new w9 n gy m _ hry
  clear hT8 b9 hgy hry
  have c0 := Rx.s.c0
  have c1 := Rx.s.c1
  have d0 := Ry.s.c0
  have d1 := Ry.s.c1
  go_wp2_with fail
  clear c0 c1 d0 d1
  generalize w9.heap.size = py at *
  generalize w9.alloc (.cells #[.int .i64 n, .slice (some ⟨gy, 0, none⟩) m m] 24) = Wy at *
  refine (SXY.out gx gy _ (Rx.wds Ux.out) (Ry.wds Uy.out)).mono ?_; rintro e w10 ⟨rfl, b10⟩
  have hT10 := hT9.next b10
  replace Rbc := Rbc.next b10
  replace Rx := Rx.next b10
  replace Rab := Rab.next b10
  replace Rac := Rac.next b10
  replace Ry := Ry.next b10
  clear hT9 b10
  have c0 := hT10.s.c0
  have c1 := hT10.s.c1
  have d0 := Rbc.s.c0
  have d1 := Rbc.s.c1
  go_wp2_with fail
  clear c0 c1 d0 d1
  refine (minusB_any n A (some ⟨gbc, 0, none⟩) m ca m f (comb orW g h) _ (HA.out.below hT10.b) (Rbc.wds Ubc.out) VA.out Vbc.out).mono ?_; rintro e w11 ⟨gp, rfl, hgp, hrp, b11⟩
  have hT11 := (hT10.next b11).alloc (.cells #[.int .i64 n, .slice (some ⟨gp, 0, none⟩) m m] 24)
  replace Rbc := (Rbc.next b11).alloc (.cells #[.int .i64 n, .slice (some ⟨gp, 0, none⟩) m m] 24)
  replace Rx := (Rx.next b11).alloc (.cells #[.int .i64 n, .slice (some ⟨gp, 0, none⟩) m m] 24)
  replace Rab := (Rab.next b11).alloc (.cells #[.int .i64 n, .slice (some ⟨gp, 0, none⟩) m m] 24)
  replace Rac := (Rac.next b11).alloc (.cells #[.int .i64 n, .slice (some ⟨gp, 0, none⟩) m m] 24)
  replace Ry := (Ry.next b11).alloc (.cells #[.int .i64 n, .slice (some ⟨gp, 0, none⟩) m m] 24)
  have Rp := rowAt_new w11 n gp m _ hrp
  clear hT10 b11 hgp hrp
  have c0 := hT11.s.c0
  have c1 := hT11.s.c1
  have d0 := hT11.t.c0
  have d1 := hT11.t.c1
  go_wp2_with fail
  clear c0 c1 d0 d1
  generalize w11.heap.size = pp at *
  generalize w11.alloc (.cells #[.int .i64 n, .slice (some ⟨gp, 0, none⟩) m m] 24) = Wp at *
  refine (minusB_any n A B m ca cb f g _ (HA.out.below hT11.b) (HB.out.below hT11.b) VA.out VB.out).mono ?_; rintro e w12 ⟨gq, rfl, hgq, hrq, b12⟩
  have hT12 := (hT11.next b12).alloc (.cells #[.int .i64 n, .slice (some ⟨gq, 0, none⟩) m m] 24)
  replace Rbc := (Rbc.next b12).alloc (.cells #[.int .i64 n, .slice (some ⟨gq, 0, none⟩) m m] 24)
  replace Rx := (Rx.next b12).alloc (.cells #[.int .i64 n, .slice (some ⟨gq, 0, none⟩) m m] 24)
  replace Rab := (Rab.next b12).alloc (.cells #[.int .i64 n, .slice (some ⟨gq, 0, none⟩) m m] 24)
  replace Rac := (Rac.next b12).alloc (.cells #[.int .i64 n, .slice (some ⟨gq, 0, none⟩) m m] 24)
  replace Ry := (Ry.next b12).alloc (.cells #[.int .i64 n, .slice (some ⟨gq, 0, none⟩) m m] 24)
  replace Rp := (Rp.next b12).alloc (.cells #[.int .i64 n, .slice (some ⟨gq, 0, none⟩) m m] 24)
  have Rq := rowAt_new w12 n gq m _ hrq
  clear hT11 b12 hgq hrq
  have c0 := hT12.s.c0
  have c1 := hT12.s.c1
  have d0 := hT12.u.c0
  have d1 := hT12.u.c1
  go_wp2_with fail
  clear c0 c1 d0 d1
  generalize w12.heap.size = pq at *
  generalize w12.alloc (.cells #[.int .i64 n, .slice (some ⟨gq, 0, none⟩) m m] 24) = Wq at *
  refine (minusB_any n A C m ca cc f h _ (HA.out.below hT12.b) (HC.out.below hT12.b) VA.out VC.out).mono ?_; rintro e w13 ⟨gr, rfl, hgr, hrr, b13⟩
  have hT13 := (hT12.next b13).alloc (.cells #[.int .i64 n, .slice (some ⟨gr, 0, none⟩) m m] 24)
  replace Rbc := (Rbc.next b13).alloc (.cells #[.int .i64 n, .slice (some ⟨gr, 0, none⟩) m m] 24)
  replace Rx := (Rx.next b13).alloc (.cells #[.int .i64 n, .slice (some ⟨gr, 0, none⟩) m m] 24)
  replace Rab := (Rab.next b13).alloc (.cells #[.int .i64 n, .slice (some ⟨gr, 0, none⟩) m m] 24)
  replace Rac := (Rac.next b13).alloc (.cells #[.int .i64 n, .slice (some ⟨gr, 0, none⟩) m m] 24)
  replace Ry := (Ry.next b13).alloc (.cells #[.int .i64 n, .slice (some ⟨gr, 0, none⟩) m m] 24)
  replace Rp := (Rp.next b13).alloc (.cells #[.int .i64 n, .slice (some ⟨gr, 0, none⟩) m m] 24)
  replace Rq := (Rq.next b13).alloc (.cells #[.int .i64 n, .slice (some ⟨gr, 0, none⟩) m m] 24)
  have Rr := rowAt_new w13 n gr m _ hrr
  clear hT12 b13 hgr hrr
  have c0 := Rq.s.c0
  have c1 := Rq.s.c1
  have d0 := Rr.s.c0
  have d1 := Rr.s.c1
  go_wp2_with fail
  clear c0 c1 d0 d1
  generalize w13.heap.size = pr at *
  generalize w13.alloc (.cells #[.int .i64 n, .slice (some ⟨gr, 0, none⟩) m m] 24) = Wr at *
  refine (interB_any n (some ⟨gq, 0, none⟩) (some ⟨gr, 0, none⟩) m m m (comb andNot f g) (comb andNot f h) _ (Rq.wds Uq.out) (Rr.wds Ur.out) Vq.out Vr.out).mono ?_; rintro e w14 ⟨gs, rfl, hgs, hrs, b14⟩
  have hT14 := (hT13.next b14).alloc (.cells #[.int .i64 n, .slice (some ⟨gs, 0, none⟩) m m] 24)
  replace Rbc := (Rbc.next b14).alloc (.cells #[.int .i64 n, .slice (some ⟨gs, 0, none⟩) m m] 24)
  replace Rx := (Rx.next b14).alloc (.cells #[.int .i64 n, .slice (some ⟨gs, 0, none⟩) m m] 24)
  replace Rab := (Rab.next b14).alloc (.cells #[.int .i64 n, .slice (some ⟨gs, 0, none⟩) m m] 24)
  replace Rac := (Rac.next b14).alloc (.cells #[.int .i64 n, .slice (some ⟨gs, 0, none⟩) m m] 24)
  replace Ry := (Ry.next b14).alloc (.cells #[.int .i64 n, .slice (some ⟨gs, 0, none⟩) m m] 24)
  replace Rp := (Rp.next b14).alloc (.cells #[.int .i64 n, .slice (some ⟨gs, 0, none⟩) m m] 24)
  replace Rq := (Rq.next b14).alloc (.cells #[.int .i64 n, .slice (some ⟨gs, 0, none⟩) m m] 24)
  replace Rr := (Rr.next b14).alloc (.cells #[.int .i64 n, .slice (some ⟨gs, 0, none⟩) m m] 24)
  have Rs := rowAt_new w14 n gs m _ hrs
  clear hT13 b14 hgs hrs
  have c0 := hT14.s.c0
  have c1 := hT14.s.c1
  have d0 := hT14.t.c0
  have d1 := hT14.t.c1
  go_wp2_with fail
  clear c0 c1 d0 d1
  generalize w14.heap.size = ps at *
  generalize w14.alloc (.cells #[.int .i64 n, .slice (some ⟨gs, 0, none⟩) m m] 24) = Ws at *
  refine (unionB_any n A B m ca cb f g _ (HA.out.below hT14.b) (HB.out.below hT14.b) VA.out VB.out).mono ?_; rintro e w15 ⟨gu, rfl, hgu, hru, b15⟩
  have hT15 := (hT14.next b15).alloc (.cells #[.int .i64 n, .slice (some ⟨gu, 0, none⟩) m m] 24)
  replace Rbc := (Rbc.next b15).alloc (.cells #[.int .i64 n, .slice (some ⟨gu, 0, none⟩) m m] 24)
  replace Rx := (Rx.next b15).alloc (.cells #[.int .i64 n, .slice (some ⟨gu, 0, none⟩) m m] 24)
  replace Rab := (Rab.next b15).alloc (.cells #[.int .i64 n, .slice (some ⟨gu, 0, none⟩) m m] 24)
  replace Rac := (Rac.next b15).alloc (.cells #[.int .i64 n, .slice (some ⟨gu, 0, none⟩) m m] 24)
  replace Ry := (Ry.next b15).alloc (.cells #[.int .i64 n, .slice (some ⟨gu, 0, none⟩) m m] 24)
  replace Rp := (Rp.next b15).alloc (.cells #[.int .i64 n, .slice (some ⟨gu, 0, none⟩) m m] 24)
  replace Rq := (Rq.next b15).alloc (.cells #[.int .i64 n, .slice (some ⟨gu, 0, none⟩) m m] 24)
  replace Rr := (Rr.next b15).alloc (.cells #[.int .i64 n, .slice (some ⟨gu, 0, none⟩) m m] 24)
  replace Rs := (Rs.next b15).alloc (.cells #[.int .i64 n, .slice (some ⟨gu, 0, none⟩) m m] 24)
  have Ru := rowAt_new w15 n gu m _ hru
  clear hT14 b15 hgu hru
  have c0 := Rp.s.c0
  have c1 := Rp.s.c1
  have d0 := Rs.s.c0
  have d1 := Rs.s.c1
  go_wp2_with fail
  clear c0 c1 d0 d1
  generalize w15.heap.size = pu at *
  generalize w15.alloc (.cells #[.int .i64 n, .slice (some ⟨gu, 0, none⟩) m m] 24) = Wu at *
  refine (SPS.out gp gs _ (Rp.wds Up.out) (Rs.wds Us.out)).mono ?_; rintro e w16 ⟨rfl, b16⟩
  have hT16 := hT15.next b16
  replace Rbc := Rbc.next b16
  replace Rx := Rx.next b16
  replace Rab := Rab.next b16
  replace Rac := Rac.next b16
  replace Ry := Ry.next b16
  replace Rp := Rp.next b16
  replace Rq := Rq.next b16
  replace Rr := Rr.next b16
  replace Rs := Rs.next b16
  replace Ru := Ru.next b16
  clear hT15 b16
  go_wp2_with fail
  generalize hW : w16 = W at *
  clear hW
  have NC := Lib.hid (alg_nums f g m UB.out hm9)
  have z1 := NC.out.1
  have z2 := NC.out.2.1
  have z3 := NC.out.2.2.1
  have z4 := NC.out.2.2.2.1
  have z5 := NC.out.2.2.2.2
  have k0 := cell_regrown hT16.s.c0
  have k1 := cell_regrown hT16.s.c1
  have k2 := cell_regrown hT16.t.c0
  have k3 := cell_regrown hT16.t.c1
  have k4 := cell_regrown Ru.s.c0
  have k5 := cell_regrown Ru.s.c1
  have k6 := cell_regrown Rab.s.c0
  have k7 := cell_regrown Rab.s.c1
  have k8 := cell_regrown Rq.s.c0
  have k9 := cell_regrown Rq.s.c1
  have QA := Lib.hid (fun d os => Calls.regrown_of (count_yes n A m ca f (grow (redrawn W d) os) (HA.out.below (below_next hT16.b (below_regrown W d os))) VA.out))
  have QB := Lib.hid (fun d os => Calls.regrown_of (count_yes n B m cb g (grow (redrawn W d) os) (HB.out.below (below_next hT16.b (below_regrown W d os))) VB.out))
  have Qu := Lib.hid (fun d os => Calls.regrown_of (count_yes n (some ⟨gu, 0, none⟩) m m (comb orW f g) (grow (redrawn W d) os) ((Ru.next (below_regrown W d os)).wds Uu.out) Vu.out))
  have Qab := Lib.hid (fun d os => Calls.regrown_of (count_yes n (some ⟨gab, 0, none⟩) m m (comb andW f g) (grow (redrawn W d) os) ((Rab.next (below_regrown W d os)).wds Uab.out) Vab.out))
  have Qq := Lib.hid (fun d os => Calls.regrown_of (count_yes n (some ⟨gq, 0, none⟩) m m (comb andNot f g) (grow (redrawn W d) os) ((Rq.next (below_regrown W d os)).wds Uq.out) Vq.out))
  refine wp_region_quiet_below (by kernel_rfl) (by kernel_rfl) ?_
  repeat (first | go_big_quiet_step (first | with_reducible exact Qu.out _ _ | with_reducible exact QA.out _ _ | with_reducible exact QB.out _ _ | with_reducible exact Qab.out _ _ | with_reducible exact Qq.out _ _) | quiet_step (first | with_reducible exact Qu.out _ _ | with_reducible exact QA.out _ _ | with_reducible exact QB.out _ _ | with_reducible exact Qab.out _ _ | with_reducible exact Qq.out _ _))
  refine wpQuiet_nil ?_
  intro _ hw'
  obtain ⟨⟨dq, osq⟩, hw''⟩ := hw'
  subst hw''
  clear k0 k1 k2 k3 k4 k5 k6 k7 k8 k9
  have hTy := hT16.next (below_regrown W dq osq)
  clear QA QB Qu Qab Qq
  go_wp2_with fail
  go_ret
  exact ⟨by simp, hTy.b⟩
theorem algebra_law (N : Int) (A : Option Addr) (la ca : Nat) (f : Nat → Nat) (M : Int) (B : Option Addr) (lb cb : Nat) (g : Nat → Nat) (K : Int) (C : Option Addr) (lc cc : Nat) (h : Nat → Nat) (w : World) (ha : Wds w A la f) (hb : Wds w B lb g) (hc : Wds w C lc h) (hT : Tab w) :
    Calls Tryd.prog 8 #[.agg #[.int .i64 N, .slice A la ca], .agg #[.int .i64 M, .slice B lb cb], .agg #[.int .i64 K, .slice C lc cc]] w fun e w' => e = .returned (.bool true) ∧ Below w.heap.size w w' := by
  rcases big_or (pick3 la lb lc) 3 with hfew | hbig
  · by_cases h1 : Vld N la f ∧ Vld M lb g ∧ N = M
    · by_cases h2 : Vld M lb g ∧ Vld K lc h ∧ M = K
      · obtain ⟨va, vb, rfl⟩ := h1
        obtain ⟨_, vc, rfl⟩ := h2
        obtain ⟨n, rfl⟩ := Int.eq_ofNat_of_zero_le va.1
        obtain rfl : la = lb := va.2.2.1.trans vb.2.2.1.symm
        obtain rfl : la = lc := va.2.2.1.trans vc.2.2.1.symm
        exact algebra_yes n A B C la ca cb cc f g h w ha hb hc hT hfew va vb vc
      · exact algebra_no2 N M K A B C la ca lb cb lc cc f g h w ha hb hc hT hfew h1.1 h1.2.1 h1.2.2 h2
    · exact algebra_no1 N M K A B C la ca lb cb lc cc f g h w ha hb hc hT hfew h1
  · exact algebra_big N M K A B C la ca lb cb lc cc w hT hbig
end Go.Proofs.YtijghglppgihmaaDoor
