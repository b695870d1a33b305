/- BitsOrders: the law's own text, walked: it returns true for every two sets. -/
import Derived.Test.YtijghglppgihmaaDoorLawMath
import Derived.Test.YtijghglppgihmaaDoorAwake
import Derived.Test.YtijghglppgihmaaDoorRefI
namespace Go.Proofs.YtijghglppgihmaaDoor
open Go.RowKit Go.Sort
def pick {α : Type} (x y : α) : Nat → α := fun k => if k = 0 then x else y
theorem sets_two (w : World) (N M : Int) (A B : Option Addr) (la ca lb cb : Nat) :
    Sets (w.alloc (.cells #[.int .i64 N, .slice A la ca, .int .i64 M, .slice B lb cb] 24)) w.heap.size 2 (pick N M) (pick A B) (pick la lb) (pick ca cb) := by
  refine ⟨by simp, fun k hk => ?_⟩
  have h := fun i => cell_of_row (w.alloc (.cells #[.int .i64 N, .slice A la ca, .int .i64 M, .slice B lb cb] 24)) w.heap.size i _ _ _ (heap_alloc_new w _)
  rw [h, h]
  match k, hk with
  | 0, _ => exact ⟨rfl, rfl⟩
  | 1, _ => exact ⟨rfl, rfl⟩
/- which of the two is too long -/
def Big (l : Nat → Nat) (n : Nat) : Prop := ∃ J, (∀ k, k < J → l k ≤ 20) ∧ J < n ∧ 20 < l J
theorem big_or (l : Nat → Nat) (n : Nat) : (∀ k, k < n → l k ≤ 20) ∨ Big l n := by
  induction n with
  | zero => left; intro k h; omega
  | succ n ih =>
    rcases ih with h | ⟨J, h1, h2, h3⟩
    · by_cases e : l n ≤ 20
      · left; intro k hk
        by_cases e2 : k = n
        · rw [e2]; exact e
        · exact h k (by omega)
      · right; exact ⟨n, h, by omega, by omega⟩
    · right; exact ⟨J, h1, by omega, h3⟩
theorem count_both (N : Int) (A : Option Addr) (la ca : Nat) (f : Nat → Nat) : ∃ x : Nat,
    (∀ w : World, Wds w A la f → Calls Tryd.prog 38 #[.agg #[.int .i64 N, .slice A la ca]] w fun e w' => e = .returned (.int .i64 (x : Nat)) ∧ Below w.heap.size w w') ∧
    (∀ w : World, Wds w A la f → Calls Tryd.prog 39 #[.agg #[.int .i64 N, .slice A la ca]] w fun e w' => e = .returned (.int .i64 (x : Nat)) ∧ Below w.heap.size w w') := by
  by_cases hv : Vld N la f
  · obtain ⟨n, rfl⟩ := Int.eq_ofNat_of_zero_le hv.1
    refine ⟨cnt f la, fun w h => count_yes n A la ca f w h hv, fun w h => ?_⟩
    rw [cnt_is hv]; exact refCount_yes n A la ca f w h hv
  · exact ⟨0, fun w h => count_no N A la ca f w h hv, fun w h => refCount_no N A la ca f w h hv⟩
/- Subset, where the two are comparable: whether all members are -/
theorem subset_dec (N : Nat) (A B : Option Addr) (m ca cb : Nat) (f g : Nat → Nat) (hu : U64 f m) (hv : U64 g m) (va : Vld N m f) (vb : Vld N m g) : ∃ v : Bool, (v = true ↔ Sub f g m) ∧
    (∀ w : World, Wds w A m f → Wds w B m g → Calls Tryd.prog 40 #[.agg #[.int .i64 N, .slice A m ca], .agg #[.int .i64 N, .slice B m cb]] w fun e w' => e = .returned (.bool v) ∧ Below w.heap.size w w') := by
  rcases first_of (fun k => !decide (andNot (f k) (g k) = 0)) m with h | ⟨J, h1, h2, h3⟩
  · have hz : ∀ k, k < m → andNot (f k) (g k) = 0 := fun k hk => by simpa using h k hk
    exact ⟨true, ⟨fun _ => (sub_words hu hv).2 hz, fun _ => rfl⟩, fun w h1 h2 => subset_any N A B m ca cb f g m true w h1 h2 va vb (Nat.le_refl _) hz (Or.inl ⟨rfl, rfl⟩)⟩
  · have hne : andNot (f J) (g J) ≠ 0 := by simpa using h2
    refine ⟨false, ⟨(fun h => by cases h), fun hs => absurd ((sub_words hu hv).1 hs J h1) hne⟩, fun w q1 q2 => subset_any N A B m ca cb f g J false w q1 q2 va vb (Nat.le_of_lt h1) (fun k hk => by simpa using h3 k hk) (Or.inr ⟨rfl, h1, hne⟩)⟩
theorem refSubset_dec (N : Nat) (A B : Option Addr) (m ca cb : Nat) (f g : Nat → Nat) (va : Vld N m f) (vb : Vld N m g) (v : Bool) (hvs : v = true ↔ Sub f g m) :
    ∀ w : World, Wds w A m f → Wds w B m g → Calls Tryd.prog 41 #[.agg #[.int .i64 N, .slice A m ca], .agg #[.int .i64 N, .slice B m cb]] w fun e w' => e = .returned (.bool v) ∧ Below w.heap.size w w' := by
  intro w q1 q2
  have hm := va.2.2.1
  simp only [Int.toNat_natCast] at hm
  rcases first_of (fun i => bt f i && !bt g i) N with h | ⟨J, h1, h2, h3⟩
  · have hs : Sub f g m := fun i hi hb => by
      have := h i (in_n va hi hb)
      rw [hb] at this; simpa using this
    rw [hvs.2 hs]
    exact refSubset_any N A B m ca cb f g N true w q1 q2 va vb (Nat.le_refl _) (fun i hi hb => hs i (by omega) hb) (Or.inl ⟨rfl, rfl⟩)
  · rw [Bool.and_eq_true, Bool.not_eq_true'] at h2
    have hvf : v = false := by
      cases v
      · rfl
      · have := hvs.1 rfl J (by omega) h2.1
        rw [h2.2] at this; cases this
    rw [hvf]
    exact refSubset_any N A B m ca cb f g J false w q1 q2 va vb (Nat.le_of_lt h1) (fun i hi hb => by have := h3 i hi; rw [hb] at this; simpa using this) (Or.inr ⟨rfl, h1, h2.1, h2.2⟩)
theorem subset_both (N M : Int) (A B : Option Addr) (la ca lb cb : Nat) (f g : Nat → Nat) (hu : U64 f la) (hw : U64 g lb) : ∃ v : Bool,
    (∀ w : World, Wds w A la f → Wds w B lb g → Calls Tryd.prog 40 #[.agg #[.int .i64 N, .slice A la ca], .agg #[.int .i64 M, .slice B lb cb]] w fun e w' => e = .returned (.bool v) ∧ Below w.heap.size w w') ∧
    (∀ w : World, Wds w A la f → Wds w B lb g → Calls Tryd.prog 41 #[.agg #[.int .i64 N, .slice A la ca], .agg #[.int .i64 M, .slice B lb cb]] w fun e w' => e = .returned (.bool v) ∧ Below w.heap.size w w') := by
  by_cases h : Vld N la f ∧ Vld M lb g ∧ N = M
  · obtain ⟨va, vb, rfl⟩ := h
    obtain ⟨n, rfl⟩ := Int.eq_ofNat_of_zero_le va.1
    obtain rfl : la = lb := va.2.2.1.trans vb.2.2.1.symm
    obtain ⟨v, h1, h2⟩ := subset_dec n A B la ca cb f g hu hw va vb
    exact ⟨v, h2, refSubset_dec n A B la ca cb f g va vb v h1⟩
  · exact ⟨false, fun w h1 h2 => subset_no N M A B la ca lb cb f g w h1 h2 h, fun w h1 h2 => refSubset_no N M A B la ca lb cb f g w h1 h2 h⟩
theorem refCompare_of (N : Nat) (A B : Option Addr) (m ca cb : Nat) (f g : Nat → Nat) (r : Int) (va : Vld N m f) (vb : Vld N m g) (h : CmpB f g (64 * m) r) :
    ∀ w : World, Wds w A m f → Wds w B m g → Calls Tryd.prog 42 #[.agg #[.int .i64 N, .slice A m ca], .agg #[.int .i64 N, .slice B m cb]] w fun e w' => e = .returned (.int .i64 r) ∧ Below w.heap.size w w' := by
  intro w q1 q2
  have hm := va.2.2.1
  simp only [Int.toNat_natCast] at hm
  unfold CmpB at h
  rw [mem_is va, mem_is vb] at h
  rcases h with h | h | ⟨h, ⟨rfl, h2⟩ | ⟨J, h1, h2, h3⟩⟩
  · exact refCompare_cnt N A B m ca cb f g r w q1 q2 va vb (Or.inl h)
  · exact refCompare_cnt N A B m ca cb f g r w q1 q2 va vb (Or.inr h)
  · exact refCompare_bits N A B m ca cb f g N 0 w q1 q2 va vb h (Nat.le_refl _) (fun i hi => h2 i (by omega)) (Or.inl ⟨rfl, rfl⟩)
  · have hJ : J < N := by
      rcases h3 with ⟨_, h4, _⟩ | ⟨_, _, h4⟩
      · exact in_n va h1 h4
      · exact in_n vb h1 h4
    refine refCompare_bits N A B m ca cb f g J r w q1 q2 va vb h (Nat.le_of_lt hJ) h2 (Or.inr ?_)
    rcases h3 with ⟨h4, h5, h6⟩ | ⟨h4, h5, h6⟩
    · exact Or.inl ⟨h4, hJ, h5, h6⟩
    · exact Or.inr ⟨h4, hJ, h5, h6⟩
set_option maxRecDepth 100000 in
set_option maxHeartbeats 2000000 in
theorem orders_big (N M : Int) (A B : Option Addr) (la ca lb cb : Nat) (w : World) (hT : Tab w) (hbig : Big (pick la lb) 2) :
    Calls Tryd.prog 6 #[.agg #[.int .i64 N, .slice A la ca], .agg #[.int .i64 M, .slice B lb cb]] w fun e w' => e = .returned (.bool true) ∧ Below w.heap.size w w' := by
  obtain ⟨J, hz, hJ⟩ := hbig
  have HZ := Lib.hid hz; clear hz
  have HJ := Lib.hid hJ; clear hJ
  have hT0 := two_new w N M A B la ca lb cb
  go_enter Tryd.func6, Tryd.ntmps6
  go_wp2_with fail
  refine (awake_any _ (hT.below hT0.b)).mono ?_; rintro e w1 ⟨rfl, b1⟩
  have hT1 := hT0.next b1
  clear hT0 b1
  have c0 := hT1.s.c0
  have c1 := hT1.s.c1
  have d0 := hT1.t.c0
  have d1 := hT1.t.c1
  go_wp2_with fail
  clear c0 c1 d0 d1
  refine (few_no w1.heap.size 2 _ _ _ _ J _ (sets_two w1 N M A B la ca lb cb) (by decide) HZ.out HJ.out).mono ?_; rintro e w2 ⟨rfl, b2⟩
  have hT2 := hT1.next (((Below.refl _ _).alloc (Nat.le_refl _) _).trans (b2.mono (by simp)))
  clear hT1 b2
  go_wp2_with fail
  refine (awake_any _ (hT.below hT2.b)).mono ?_; rintro e w3 ⟨rfl, b3⟩
  go_wp2_with fail
  go_ret
  exact ⟨rfl, (hT2.next b3).b⟩
set_option maxRecDepth 100000 in
set_option maxHeartbeats 2000000 in
theorem orders_any (N M : Int) (A B : Option Addr) (la ca lb cb : Nat) (f g : Nat → Nat) (w : World) (ha : Wds w A la f) (hb : Wds w B lb g) (hT : Tab w) :
    Calls Tryd.prog 6 #[.agg #[.int .i64 N, .slice A la ca], .agg #[.int .i64 M, .slice B lb cb]] w fun e w' => e = .returned (.bool true) ∧ Below w.heap.size w w' := by
  rcases big_or (pick la lb) 2 with hfew | hbig
  rotate_left
  · exact orders_big N M A B la ca lb cb w hT hbig
  obtain ⟨x, hx1, hx2⟩ := count_both N A la ca f
  obtain ⟨v, hs1, hs2⟩ := subset_both N M A B la ca lb cb f g ha.1 hb.1
  have HA := Lib.hid ha; clear ha
  have HB := Lib.hid hb; clear hb
  have HF := Lib.hid hfew; clear hfew
  have X1 := Lib.hid hx1; clear hx1
  have X2 := Lib.hid hx2; clear hx2
  have S1 := Lib.hid hs1; clear hs1
  have S2 := Lib.hid hs2; clear hs2
  have hT0 := two_new w N M A B la ca lb cb
  by_cases hc : Vld N la f ∧ Vld M lb g ∧ N = M
  · obtain ⟨va, vb, rfl⟩ := hc
    obtain ⟨n, rfl⟩ := Int.eq_ofNat_of_zero_le va.1
    obtain rfl : la = lb := va.2.2.1.trans vb.2.2.1.symm
    obtain ⟨r, hr⟩ := cmpB_ex f g (64 * la)
    have C1 := Lib.hid (fun (w : World) (h1 : Wds w A la f) (h2 : Wds w B la g) => compare_any n A B la ca cb f g r w h1 h2 va vb (cmpW_of HA.out.1 HB.out.1 hr))
    have C2 := Lib.hid (refCompare_of n A B la ca cb f g r va vb hr)
    have C3 := Lib.hid (fun (w : World) (h1 : Wds w A la f) (h2 : Wds w B la g) => refCmp_yes n A B la ca la cb f g w h1 h2 va vb)
    clear hr va vb
    go_enter Tryd.func6, Tryd.ntmps6
    go_wp2_with fail
    refine (awake_any _ (hT.below hT0.b)).mono ?_; rintro e w1 ⟨rfl, b1⟩
    have hT1 := hT0.next b1
    clear hT0 b1
    have c0 := hT1.s.c0
    have c1 := hT1.s.c1
    have d0 := hT1.t.c0
    have d1 := hT1.t.c1
    go_wp2_with fail
    clear c0 c1 d0 d1
    refine (few_yes w1.heap.size 2 _ _ _ _ _ (sets_two w1 n n A B la ca la cb) (by decide) HF.out).mono ?_; rintro e w2 ⟨rfl, b2⟩
    have hT2 := hT1.next (((Below.refl _ _).alloc (Nat.le_refl _) _).trans (b2.mono (by simp)))
    clear hT1 b2
    have c0 := hT2.s.c0
    have c1 := hT2.s.c1
    have d0 := hT2.t.c0
    have d1 := hT2.t.c1
    go_wp2_with fail
    clear c0 c1 d0 d1
    refine (C1.out _ (HA.out.below hT2.b) (HB.out.below hT2.b)).mono ?_; rintro e W ⟨rfl, b3⟩
    have hT3 := hT2.next b3
    clear hT2 b3
    go_wp2_with fail
    have k0 := cell_regrown hT3.s.c0
    have k1 := cell_regrown hT3.s.c1
    have k2 := cell_regrown hT3.t.c0
    have k3 := cell_regrown hT3.t.c1
    have CA := Lib.hid (fun d os => Calls.regrown_of (X1.out (grow (redrawn W d) os) (HA.out.below (below_next hT3.b (below_regrown W d os)))))
    have CB := Lib.hid (fun d os => Calls.regrown_of (X2.out (grow (redrawn W d) os) (HA.out.below (below_next hT3.b (below_regrown W d os)))))
    have CC := Lib.hid (fun d os => Calls.regrown_of (S1.out (grow (redrawn W d) os) (HA.out.below (below_next hT3.b (below_regrown W d os))) (HB.out.below (below_next hT3.b (below_regrown W d os)))))
    have CD := Lib.hid (fun d os => Calls.regrown_of (S2.out (grow (redrawn W d) os) (HA.out.below (below_next hT3.b (below_regrown W d os))) (HB.out.below (below_next hT3.b (below_regrown W d os)))))
    refine wp_region_quiet_below (by kernel_rfl) (by kernel_rfl) ?_
    repeat (first | go_big_quiet_step (first | with_reducible exact CA.out _ _ | with_reducible exact CB.out _ _ | with_reducible exact CC.out _ _ | with_reducible exact CD.out _ _) | quiet_step (first | with_reducible exact CA.out _ _ | with_reducible exact CB.out _ _ | with_reducible exact CC.out _ _ | with_reducible exact CD.out _ _))
    refine wpQuiet_nil ?_
    intro _ hw'
    obtain ⟨⟨dq, osq⟩, hw''⟩ := hw'
    subst hw''
    clear k0 k1 k2 k3
    have hT4 := hT3.next (below_regrown W dq osq)
    clear CA CB CC CD hT3
    have c0 := hT4.s.c0
    have c1 := hT4.s.c1
    have d0 := hT4.t.c0
    have d1 := hT4.t.c1
    go_wp2_with fail
    clear c0 c1 d0 d1
    refine (C3.out _ (HA.out.below hT4.b) (HB.out.below hT4.b)).mono ?_; rintro e w5 ⟨rfl, b5⟩
    have hT5 := hT4.next b5
    clear hT4 b5
    have c0 := hT5.s.c0
    have c1 := hT5.s.c1
    have d0 := hT5.t.c0
    have d1 := hT5.t.c1
    go_wp2_with fail
    clear c0 c1 d0 d1
    refine (C2.out _ (HA.out.below hT5.b) (HB.out.below hT5.b)).mono ?_; rintro e w6 ⟨rfl, b6⟩
    go_wp2_with fail
    go_ret
    exact ⟨by simp, (hT5.next b6).b⟩
  · have HC := Lib.hid hc; clear hc
    go_enter Tryd.func6, Tryd.ntmps6
    go_wp2_with fail
    refine (awake_any _ (hT.below hT0.b)).mono ?_; rintro e w1 ⟨rfl, b1⟩
    have hT1 := hT0.next b1
    clear hT0 b1
    have c0 := hT1.s.c0
    have c1 := hT1.s.c1
    have d0 := hT1.t.c0
    have d1 := hT1.t.c1
    go_wp2_with fail
    clear c0 c1 d0 d1
    refine (few_yes w1.heap.size 2 _ _ _ _ _ (sets_two w1 N M A B la ca lb cb) (by decide) HF.out).mono ?_; rintro e w2 ⟨rfl, b2⟩
    have hT2 := hT1.next (((Below.refl _ _).alloc (Nat.le_refl _) _).trans (b2.mono (by simp)))
    clear hT1 b2
    have c0 := hT2.s.c0
    have c1 := hT2.s.c1
    have d0 := hT2.t.c0
    have d1 := hT2.t.c1
    go_wp2_with fail
    clear c0 c1 d0 d1
    refine (compare_no _ _ _ _ _ _ _ _ _ _ _ (HA.out.below hT2.b) (HB.out.below hT2.b) HC.out).mono ?_; rintro e W ⟨rfl, b3⟩
    have hT3 := hT2.next b3
    clear hT2 b3
    go_wp2_with fail
    have k0 := cell_regrown hT3.s.c0
    have k1 := cell_regrown hT3.s.c1
    have k2 := cell_regrown hT3.t.c0
    have k3 := cell_regrown hT3.t.c1
    have CA := Lib.hid (fun d os => Calls.regrown_of (X1.out (grow (redrawn W d) os) (HA.out.below (below_next hT3.b (below_regrown W d os)))))
    have CB := Lib.hid (fun d os => Calls.regrown_of (X2.out (grow (redrawn W d) os) (HA.out.below (below_next hT3.b (below_regrown W d os)))))
    have CC := Lib.hid (fun d os => Calls.regrown_of (S1.out (grow (redrawn W d) os) (HA.out.below (below_next hT3.b (below_regrown W d os))) (HB.out.below (below_next hT3.b (below_regrown W d os)))))
    have CD := Lib.hid (fun d os => Calls.regrown_of (S2.out (grow (redrawn W d) os) (HA.out.below (below_next hT3.b (below_regrown W d os))) (HB.out.below (below_next hT3.b (below_regrown W d os)))))
    refine wp_region_quiet_below (by kernel_rfl) (by kernel_rfl) ?_
    repeat (first | go_big_quiet_step (first | with_reducible exact CA.out _ _ | with_reducible exact CB.out _ _ | with_reducible exact CC.out _ _ | with_reducible exact CD.out _ _) | quiet_step (first | with_reducible exact CA.out _ _ | with_reducible exact CB.out _ _ | with_reducible exact CC.out _ _ | with_reducible exact CD.out _ _))
    refine wpQuiet_nil ?_
    intro _ hw'
    obtain ⟨⟨dq, osq⟩, hw''⟩ := hw'
    subst hw''
    clear k0 k1 k2 k3
    have hT4 := hT3.next (below_regrown W dq osq)
    clear CA CB CC CD hT3
    have c0 := hT4.s.c0
    have c1 := hT4.s.c1
    have d0 := hT4.t.c0
    have d1 := hT4.t.c1
    go_wp2_with fail
    clear c0 c1 d0 d1
    refine (refCmp_no _ _ _ _ _ _ _ _ _ _ _ (HA.out.below hT4.b) (HB.out.below hT4.b) HC.out).mono ?_; rintro e w5 ⟨rfl, b5⟩
    go_wp2_with fail
    go_ret
    exact ⟨rfl, (hT4.next b5).b⟩
theorem orders_law (N : Int) (A : Option Addr) (la ca : Nat) (f : Nat → Nat) (M : Int) (B : Option Addr) (lb cb : Nat) (g : Nat → Nat) (w : World) (ha : Wds w A la f) (hb : Wds w B lb g) (hT : Tab w) :
    Calls Tryd.prog 6 #[.agg #[.int .i64 N, .slice A la ca], .agg #[.int .i64 M, .slice B lb cb]] w fun e w' => e = .returned (.bool true) ∧ Below w.heap.size w w' :=
  orders_any N M A B la ca lb cb f g w ha hb hT
end Go.Proofs.YtijghglppgihmaaDoor
