/- BitsJoins: the law's own text, walked: it returns true for every two sets. -/
import Derived.Test.YtijghglppgihmaaDoorLawOrd
import Derived.Deep.RegionHeld3
namespace Go.Proofs.YtijghglppgihmaaDoor
open Go.RowKit
set_option maxRecDepth 100000 in
set_option maxHeartbeats 2000000 in
theorem joins_big (N M : Int) (A B : Option Addr) (la ca lb cb : Nat) (w : World) (hT : Tab w) (hbig : Big (pick la lb) 2) :
    Calls Tryd.prog 5 #[.agg #[.int .i64 N, .slice A la ca], .agg #[.int .i64 M, .slice B lb cb]] w fun e w' => e = .returned (.bool true) ∧ Below w.heap.size w w' := by
  obtain ⟨J, hz, hJ⟩ := hbig
  have HZ := Lib.hid hz; clear hz
  have HJ := Lib.hid hJ; clear hJ
  have hT0 := two_new w N M A B la ca lb cb
  go_enter Tryd.func5, Tryd.ntmps5
  go_wp2_with fail
  refine (awake_any _ (hT.below hT0.b)).mono ?_; rintro e w1 ⟨rfl, b1⟩
  have hT1 := hT0.next b1
  clear hT0 b1
  have c0 := hT1.s.c0
  have c1 := hT1.s.c1
  have d0 := hT1.t.c0
  have d1 := hT1.t.c1
  go_wp2_with fail
  clear c0 c1 d0 d1
  refine (few_no w1.heap.size 2 _ _ _ _ J _ (sets_two w1 N M A B la ca lb cb) (by decide) HZ.out HJ.out).mono ?_; rintro e w2 ⟨rfl, b2⟩
  have hT2 := hT1.next (((Below.refl _ _).alloc (Nat.le_refl _) _).trans (b2.mono (by simp)))
  clear hT1 b2
  go_wp2_with fail
  refine (awake_any _ (hT.below hT2.b)).mono ?_; rintro e w3 ⟨rfl, b3⟩
  go_wp2_with fail
  go_ret
  exact ⟨rfl, (hT2.next b3).b⟩
set_option maxRecDepth 100000 in
set_option maxHeartbeats 2000000 in
theorem joins_no (N M : Int) (A B : Option Addr) (la ca lb cb : Nat) (f g : Nat → Nat) (w : World) (ha : Wds w A la f) (hb : Wds w B lb g) (hT : Tab w) (hfew : ∀ k, k < 2 → pick la lb k ≤ 20) (hc : ¬ (Vld N la f ∧ Vld M lb g ∧ N = M)) :
    Calls Tryd.prog 5 #[.agg #[.int .i64 N, .slice A la ca], .agg #[.int .i64 M, .slice B lb cb]] w fun e w' => e = .returned (.bool true) ∧ Below w.heap.size w w' := by
  have HA := Lib.hid ha; clear ha
  have HB := Lib.hid hb; clear hb
  have HF := Lib.hid hfew; clear hfew
  have HC := Lib.hid hc; clear hc
  have hT0 := two_new w N M A B la ca lb cb
  go_enter Tryd.func5, Tryd.ntmps5
  go_wp2_with fail
  refine (awake_any _ (hT.below hT0.b)).mono ?_; rintro e w1 ⟨rfl, b1⟩
  have hT1 := hT0.next b1
  clear hT0 b1
  have c0 := hT1.s.c0
  have c1 := hT1.s.c1
  have d0 := hT1.t.c0
  have d1 := hT1.t.c1
  go_wp2_with fail
  clear c0 c1 d0 d1
  refine (few_yes w1.heap.size 2 _ _ _ _ _ (sets_two w1 N M A B la ca lb cb) (by decide) HF.out).mono ?_; rintro e w2 ⟨rfl, b2⟩
  have hT2 := hT1.next (((Below.refl _ _).alloc (Nat.le_refl _) _).trans (b2.mono (by simp)))
  clear hT1 b2
  have c0 := hT2.s.c0
  have c1 := hT2.s.c1
  have d0 := hT2.t.c0
  have d1 := hT2.t.c1
  go_wp2_with fail
  clear c0 c1 d0 d1
  refine (unionB_err _ _ _ _ _ _ _ _ _ _ _ (HA.out.below hT2.b) (HB.out.below hT2.b) HC.out).mono ?_; rintro e w3 ⟨rfl, b3⟩
  have hT3 := (hT2.next b3).alloc (.cells #[.int .i64 0, .slice none 0 0] 24)
  have lt3 := (hT2.next b3).t.lt
  have lt3' := (hT2.next b3).s.lt
  have u3 := setAt_new w3 0 none 0 0
  have c0 := hT3.s.c0
  have c1 := hT3.s.c1
  have d0 := hT3.t.c0
  have d1 := hT3.t.c1
  clear hT2 b3
  go_wp2_with fail
  clear c0 c1 d0 d1
  refine (interB_err _ _ _ _ _ _ _ _ _ _ _ (HA.out.below hT3.b) (HB.out.below hT3.b) HC.out).mono ?_; rintro e w4 ⟨rfl, b4⟩
  have u4 := (u3.below b4).alloc (.cells #[.int .i64 0, .slice none 0 0] 24)
  have hT4 := (hT3.next b4).alloc (.cells #[.int .i64 0, .slice none 0 0] 24)
  have i4 := setAt_new w4 0 none 0 0
  have c0 := hT4.s.c0
  have c1 := hT4.s.c1
  have d0 := hT4.t.c0
  have d1 := hT4.t.c1
  clear hT3 b4 u3
  go_wp2_with fail
  clear c0 c1 d0 d1
  refine (minusB_err _ _ _ _ _ _ _ _ _ _ _ (HA.out.below hT4.b) (HB.out.below hT4.b) HC.out).mono ?_; rintro e w5 ⟨rfl, b5⟩
  have u5 := (u4.below b5).alloc (.cells #[.int .i64 0, .slice none 0 0] 24)
  have i5 := (i4.below b5).alloc (.cells #[.int .i64 0, .slice none 0 0] 24)
  have hT5 := (hT4.next b5).alloc (.cells #[.int .i64 0, .slice none 0 0] 24)
  have m5 := setAt_new w5 0 none 0 0
  have c0 := hT5.s.c0
  have c1 := hT5.s.c1
  have d0 := hT5.t.c0
  have d1 := hT5.t.c1
  clear hT4 b5 u4 i4
  go_wp2_with fail
  clear c0 c1 d0 d1
  refine (refCmp_no _ _ _ _ _ _ _ _ _ _ _ (HA.out.below hT5.b) (HB.out.below hT5.b) HC.out).mono ?_; rintro e w6 ⟨rfl, b6⟩
  have hT6 := hT5.next b6
  have u6 := u5.below b6
  have i6 := i5.below b6
  have m6 := m5.below b6
  clear hT5 b6 u5 i5 m5
  have c0 := u6.c0
  have c1 := u6.c1
  go_wp2_with fail
  clear c0 c1
  refine (none_zero _).mono ?_; rintro e w7 ⟨rfl, b7⟩
  have hT7 := hT6.next b7
  have i7 := i6.below b7
  have m7 := m6.below b7
  clear hT6 b7 u6 i6 m6
  have c0 := i7.c0
  have c1 := i7.c1
  go_wp2_with fail
  clear c0 c1
  refine (none_zero _).mono ?_; rintro e w8 ⟨rfl, b8⟩
  have hT8 := hT7.next b8
  have m8 := m7.below b8
  clear hT7 b8 i7 m7
  have c0 := m8.c0
  have c1 := m8.c1
  go_wp2_with fail
  clear c0 c1
  refine (none_zero _).mono ?_; rintro e w9 ⟨rfl, b9⟩
  go_wp2_with fail
  go_ret
  exact ⟨by simp, (hT8.next b9).b⟩
set_option maxRecDepth 100000 in
set_option maxHeartbeats 4000000 in
theorem joins_yes (n : Nat) (A B : Option Addr) (m ca cb : Nat) (f g : Nat → Nat) (w : World) (ha : Wds w A m f) (hb : Wds w B m g) (hT : Tab w) (hfew : ∀ k, k < 2 → pick m m k ≤ 20) (va : Vld n m f) (vb : Vld n m g) :
    Calls Tryd.prog 5 #[.agg #[.int .i64 n, .slice A m ca], .agg #[.int .i64 n, .slice B m cb]] w fun e w' => e = .returned (.bool true) ∧ Below w.heap.size w w' := by
  have hn : n ≤ 512 := by have := va.2.1; omega
  have hmd : m = (n + 63) / 64 := by have := va.2.2.1; simpa using this
  have EU := Lib.hid (union_words ha.1 hb.1 va vb)
  have EI := Lib.hid (inter_words (g := g) ha.1 va)
  have EM := Lib.hid (minus_words ha.1 hb.1 va)
  have hm9 : m ≤ 9 := by omega
  have HA := Lib.hid ha; clear ha
  have HB := Lib.hid hb; clear hb
  have HF := Lib.hid hfew; clear hfew
  have VA := Lib.hid va; clear va
  have VB := Lib.hid vb; clear vb
  have HMD := Lib.hid hmd; clear hmd
  have RU := Lib.hid (fun (w : World) (h1 : Wds w A m f) (h2 : Wds w B m g) => refUnion_any n A B m ca m cb f g w h1 h2 hn HMD.out HMD.out)
  have RI := Lib.hid (fun (w : World) (h1 : Wds w A m f) (h2 : Wds w B m g) => refInter_any n A B m ca m cb f g w h1 h2 hn HMD.out HMD.out)
  have RM := Lib.hid (fun (w : World) (h1 : Wds w A m f) (h2 : Wds w B m g) => refMinus_any n A B m ca m cb f g w h1 h2 hn HMD.out HMD.out)
  rw [← HMD.out] at RU RI RM
  have UU := Lib.hid (u64_or HA.out.1 HB.out.1)
  have UI := Lib.hid (u64_and' (g := g) HA.out.1)
  have UM := Lib.hid (u64_not (g := g) HA.out.1)
  have hT0 := two_new w n n A B m ca m cb
  go_enter Tryd.func5, Tryd.ntmps5
  go_wp2_with fail
  refine (awake_any _ (hT.below hT0.b)).mono ?_; rintro e w1 ⟨rfl, b1⟩
  have hT1 := hT0.next b1
  clear hT0 b1
  have c0 := hT1.s.c0
  have c1 := hT1.s.c1
  have d0 := hT1.t.c0
  have d1 := hT1.t.c1
  go_wp2_with fail
  clear c0 c1 d0 d1
  refine (few_yes w1.heap.size 2 _ _ _ _ _ (sets_two w1 n n A B m ca m cb) (by decide) HF.out).mono ?_; rintro e w2 ⟨rfl, b2⟩
  have hT2 := hT1.next (((Below.refl _ _).alloc (Nat.le_refl _) _).trans (b2.mono (by simp)))
  clear hT1 b2
  have c0 := hT2.s.c0
  have c1 := hT2.s.c1
  have d0 := hT2.t.c0
  have d1 := hT2.t.c1
  go_wp2_with fail
  clear c0 c1 d0 d1
  refine (unionB_any n A B m ca cb f g _ (HA.out.below hT2.b) (HB.out.below hT2.b) VA.out VB.out).mono ?_; rintro e w3 ⟨gu, rfl, hgu, hru, b3⟩
  have hT3 := (hT2.next b3).alloc (.cells #[.int .i64 n, .slice (some ⟨gu, 0, none⟩) m m] 24)
  have lt3 := (hT2.next b3).t.lt
  have lt3' := (hT2.next b3).s.lt
  have u3 := setAt_new w3 n (some ⟨gu, 0, none⟩) m m
  have ru3 := hru.alloc (.cells #[.int .i64 n, .slice (some ⟨gu, 0, none⟩) m m] 24)
  have c0 := hT3.s.c0
  have c1 := hT3.s.c1
  have d0 := hT3.t.c0
  have d1 := hT3.t.c1
  clear hT2 b3 hru
  go_wp2_with fail
  clear c0 c1 d0 d1
  refine (interB_any n A B m ca cb f g _ (HA.out.below hT3.b) (HB.out.below hT3.b) VA.out VB.out).mono ?_; rintro e w4 ⟨gi, rfl, hgi, hri, b4⟩
  have u4 := (u3.below b4).alloc (.cells #[.int .i64 n, .slice (some ⟨gi, 0, none⟩) m m] 24)
  have ru4 := (row_below ru3 b4).alloc (.cells #[.int .i64 n, .slice (some ⟨gi, 0, none⟩) m m] 24)
  have hT4 := (hT3.next b4).alloc (.cells #[.int .i64 n, .slice (some ⟨gi, 0, none⟩) m m] 24)
  have i4 := setAt_new w4 n (some ⟨gi, 0, none⟩) m m
  have ri4 := hri.alloc (.cells #[.int .i64 n, .slice (some ⟨gi, 0, none⟩) m m] 24)
  have c0 := hT4.s.c0
  have c1 := hT4.s.c1
  have d0 := hT4.t.c0
  have d1 := hT4.t.c1
  clear hT3 b4 u3 ru3 hri
  go_wp2_with fail
  clear c0 c1 d0 d1
  refine (minusB_any n A B m ca cb f g _ (HA.out.below hT4.b) (HB.out.below hT4.b) VA.out VB.out).mono ?_; rintro e w5 ⟨gm, rfl, hgm, hrm, b5⟩
  have u5 := (u4.below b5).alloc (.cells #[.int .i64 n, .slice (some ⟨gm, 0, none⟩) m m] 24)
  have ru5 := (row_below ru4 b5).alloc (.cells #[.int .i64 n, .slice (some ⟨gm, 0, none⟩) m m] 24)
  have i5 := (i4.below b5).alloc (.cells #[.int .i64 n, .slice (some ⟨gm, 0, none⟩) m m] 24)
  have ri5 := (row_below ri4 b5).alloc (.cells #[.int .i64 n, .slice (some ⟨gm, 0, none⟩) m m] 24)
  have hT5 := (hT4.next b5).alloc (.cells #[.int .i64 n, .slice (some ⟨gm, 0, none⟩) m m] 24)
  have m5 := setAt_new w5 n (some ⟨gm, 0, none⟩) m m
  have rm5 := hrm.alloc (.cells #[.int .i64 n, .slice (some ⟨gm, 0, none⟩) m m] 24)
  have c0 := hT5.s.c0
  have c1 := hT5.s.c1
  have d0 := hT5.t.c0
  have d1 := hT5.t.c1
  clear hT4 b5 u4 i4 ru4 ri4 hrm
  go_wp2_with fail
  clear c0 c1 d0 d1
  refine (refCmp_yes _ _ _ _ _ _ _ _ _ _ (HA.out.below hT5.b) (HB.out.below hT5.b) VA.out VB.out).mono ?_; rintro e W ⟨rfl, b6⟩
  have hT6 := hT5.next b6
  have u6 := u5.below b6
  have i6 := i5.below b6
  have m6 := m5.below b6
  have ru6 := row_below ru5 b6
  have ri6 := row_below ri5 b6
  have rm6 := row_below rm5 b6
  clear hT5 b6 u5 i5 m5 ru5 ri5 rm5
  generalize w3.heap.size = pu at *
  generalize w4.heap.size = pi at *
  generalize w5.heap.size = pm at *
  go_wp2_with fail
  have HS : ∀ w', Below W.heap.size W w' → Below W.heap.size W w' ∧ w'.cell? ⟨w.heap.size, 0, none⟩ = some (.int .i64 n) ∧ w'.cell? ⟨w.heap.size, 1, none⟩ = some (.slice A m ca) ∧ w'.cell? ⟨w.heap.size + 1, 0, none⟩ = some (.int .i64 n) ∧ w'.cell? ⟨w.heap.size + 1, 1, none⟩ = some (.slice B m cb) ∧
      w'.cell? ⟨pu, 0, none⟩ = some (.int .i64 n) ∧ w'.cell? ⟨pu, 1, none⟩ = some (.slice (some ⟨gu, 0, none⟩) m m) ∧ w'.cell? ⟨pi, 0, none⟩ = some (.int .i64 n) ∧ w'.cell? ⟨pi, 1, none⟩ = some (.slice (some ⟨gi, 0, none⟩) m m) ∧ w'.cell? ⟨pm, 0, none⟩ = some (.int .i64 n) ∧ w'.cell? ⟨pm, 1, none⟩ = some (.slice (some ⟨gm, 0, none⟩) m m) := fun w' b =>
    ⟨b, (hT6.next b).s.c0, (hT6.next b).s.c1, (hT6.next b).t.c0, (hT6.next b).t.c1, (u6.below b).c0, (u6.below b).c1, (i6.below b).c0, (i6.below b).c1, (m6.below b).c0, (m6.below b).c1⟩
  have HSS := Lib.hid HS; clear HS
  go_region_held3 (fun w' => Below W.heap.size W w' ∧ w'.cell? ⟨w.heap.size, 0, none⟩ = some (.int .i64 n) ∧ w'.cell? ⟨w.heap.size, 1, none⟩ = some (.slice A m ca) ∧ w'.cell? ⟨w.heap.size + 1, 0, none⟩ = some (.int .i64 n) ∧ w'.cell? ⟨w.heap.size + 1, 1, none⟩ = some (.slice B m cb) ∧
      w'.cell? ⟨pu, 0, none⟩ = some (.int .i64 n) ∧ w'.cell? ⟨pu, 1, none⟩ = some (.slice (some ⟨gu, 0, none⟩) m m) ∧ w'.cell? ⟨pi, 0, none⟩ = some (.int .i64 n) ∧ w'.cell? ⟨pi, 1, none⟩ = some (.slice (some ⟨gi, 0, none⟩) m m) ∧ w'.cell? ⟨pm, 0, none⟩ = some (.int .i64 n) ∧ w'.cell? ⟨pm, 1, none⟩ = some (.slice (some ⟨gm, 0, none⟩) m m))
    (first
      | exact HSS.out _ (Below.refl _ _).drew
      | exact HSS.out _ (below_next (And.left (by assumption)) bx))
    (first
      | (go_at_call 34; refine (RU.out _ (HA.out.below (below_next hT6.b (And.left (by assumption)))) (HB.out.below (below_next hT6.b (And.left (by assumption))))).mono ?_; rintro e wx ⟨gx, rfl, hgx, hrx, bx⟩)
      | (go_at_call 35; refine (RI.out _ (HA.out.below (below_next hT6.b (And.left (by assumption)))) (HB.out.below (below_next hT6.b (And.left (by assumption))))).mono ?_; rintro e wx ⟨gx, rfl, hgx, hrx, bx⟩)
      | (go_at_call 36; refine (RM.out _ (HA.out.below (below_next hT6.b (And.left (by assumption)))) (HB.out.below (below_next hT6.b (And.left (by assumption))))).mono ?_; rintro e wx ⟨gx, rfl, hgx, hrx, bx⟩)
      | (go_at_call 18; with_reducible refine (refSame_any n (some ⟨gu, 0, none⟩) (some ⟨gx, 0, none⟩) m m m (comb orW f g) _ m true _ (row_wds (row_below ru6 (And.left (by assumption))) UU.out) (row_wds hrx (ofl_u64 _ _)) (by omega) (Nat.le_refl _) EU.out (Or.inl ⟨rfl, rfl⟩)).mono ?_; rintro e wy ⟨rfl, bx⟩)
      | (go_at_call 18; with_reducible refine (refSame_any n (some ⟨gi, 0, none⟩) (some ⟨gx, 0, none⟩) m m m (comb andW f g) _ m true _ (row_wds (row_below ri6 (And.left (by assumption))) UI.out) (row_wds hrx (ofl_u64 _ _)) (by omega) (Nat.le_refl _) EI.out (Or.inl ⟨rfl, rfl⟩)).mono ?_; rintro e wy ⟨rfl, bx⟩)
      | (go_at_call 18; with_reducible refine (refSame_any n (some ⟨gm, 0, none⟩) (some ⟨gx, 0, none⟩) m m m (comb andNot f g) _ m true _ (row_wds (row_below rm6 (And.left (by assumption))) UM.out) (row_wds hrx (ofl_u64 _ _)) (by omega) (Nat.le_refl _) EM.out (Or.inl ⟨rfl, rfl⟩)).mono ?_; rintro e wy ⟨rfl, bx⟩))
  all_goals
    have hF := below_next hT6.b (And.left (by assumption))
    go_wp2_with fail
    go_ret
    exact ⟨by simp, hF⟩
theorem joins_law (N : Int) (A : Option Addr) (la ca : Nat) (f : Nat → Nat) (M : Int) (B : Option Addr) (lb cb : Nat) (g : Nat → Nat) (w : World) (ha : Wds w A la f) (hb : Wds w B lb g) (hT : Tab w) :
    Calls Tryd.prog 5 #[.agg #[.int .i64 N, .slice A la ca], .agg #[.int .i64 M, .slice B lb cb]] w fun e w' => e = .returned (.bool true) ∧ Below w.heap.size w w' := by
  rcases big_or (pick la lb) 2 with hfew | hbig
  · by_cases hc : Vld N la f ∧ Vld M lb g ∧ N = M
    · obtain ⟨va, vb, rfl⟩ := hc
      obtain ⟨n, rfl⟩ := Int.eq_ofNat_of_zero_le va.1
      obtain rfl : la = lb := va.2.2.1.trans vb.2.2.1.symm
      exact joins_yes n A B la ca cb f g w ha hb hT hfew va vb
    · exact joins_no N M A B la ca lb cb f g w ha hb hT hfew hc
  · exact joins_big N M A B la ca lb cb w hT hbig
end Go.Proofs.YtijghglppgihmaaDoor
