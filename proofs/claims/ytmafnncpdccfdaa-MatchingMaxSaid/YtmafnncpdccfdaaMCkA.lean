/- Both Checks: the program's and the reference's say the same. -/
import Derived.Test.YtmafnncpdccfdaaMRco
import Derived.Test.YtmafnncpdccfdaaMRefB
import Derived.Test.YtmafnncpdccfdaaMRefC
import Derived.Lib.QuietBelow
namespace Go.Proofs.Ytmafnncpdccfdaa
open Go.RowKit Go.Sort
theorem bcnt_mem (f : Nat → Nat) : ∀ K, bcnt f K = (mem f K).length
  | 0 => rfl
  | K + 1 => by
    rw [mem_succ, List.length_append, ← bcnt_mem f K]
    show bcnt f K + _ = _
    by_cases h : bt f K = true
    · rw [if_pos h, if_pos h]; rfl
    · rw [if_neg h, if_neg h]; rfl
theorem cnt_bcnt {N la : Nat} {f : Nat → Nat} (h : Vld N la f) : cnt f la = bcnt f N := by
  rw [cnt_mem, mem_all h, bcnt_mem]; rfl
def CkP (N M : Int) (k p : Nat) (E Z : Nat → Int × Int) (N1 N2 : Int) (la lb : Nat) (f g : Nat → Nat) : Prop :=
  VG N M k E ∧ (N1 = N ∧ Vld N1 la f) ∧ (N2 = M ∧ Vld N2 lb g) ∧ MatP E k Z p ∧ Cov E f g k ∧ p = bcnt f N.toNat + bcnt g M.toNat
def CkC (fn : Nat) (N M : Int) (k c p cp : Nat) (A B : Option Addr) (N1 N2 : Int) (la ca lb cb : Nat) (X Y : Option Addr) (v : Bool) (w : World) : Prop :=
  Calls Try.prog fn #[.int .i64 N, .int .i64 M, .slice A k c, .slice B p cp, .agg #[.int .i64 N1, .slice X la ca], .agg #[.int .i64 N2, .slice Y lb cb]] w fun e w' => e = .returned (.bool v) ∧ Below w.heap.size w w'
section
variable (N M : Int) (k c p cp : Nat) (A B : Option Addr) (E : Nat → Int × Int) (N1 N2 : Int) (la ca lb cb : Nat) (X Y : Option Addr) (f g : Nat → Nat) (w : World)
theorem ck_g (h : Prs w A k E) (hX : Wds w X la f) (hY : Wds w Y lb g) (hv : ¬ VG N M k E) : CkC 20 N M k c p cp A B N1 N2 la ca lb cb X Y false w := by
  have HH := Lib.hid h
  have HX := Lib.hid hX
  have HY := Lib.hid hY
  clear h hX hY
  have HV := Lib.hid hv; clear hv
  clear HX HY
  have hT := two_new w N1 N2 X Y la ca lb cb
  go_enter Try.func20, Try.ntmps20
  go_upto_region 1 with fail
  generalize (w.alloc (.cells #[.int .i64 N1, .slice X la ca] 30)).alloc (.cells #[.int .i64 N2, .slice Y lb cb] 30) = W at *
  have c0 := hT.s.c0
  have c1 := hT.s.c1
  have d0 := hT.t.c0
  have d1 := hT.t.c1
  go_wp2_with fail
  refine (gvalid_no _ _ _ _ _ _ _ (HH.out.below hT.b) HV.out).mono ?_; rintro e w1 ⟨rfl, b1⟩
  have hT1 := hT.next b1
  clear hT b1 c0 c1 d0 d1
  have c0 := hT1.s.c0
  have c1 := hT1.s.c1
  have d0 := hT1.t.c0
  have d1 := hT1.t.c1
  go_wp2_with fail
  go_ret
  exact ⟨rfl, hT1.b⟩
theorem ck_1 (h : Prs w A k E) (hX : Wds w X la f) (hY : Wds w Y lb g) (hv : VG N M k E) (h1 : ¬ Vld N1 la f) : CkC 20 N M k c p cp A B N1 N2 la ca lb cb X Y false w := by
  have HH := Lib.hid h
  have HX := Lib.hid hX
  have HY := Lib.hid hY
  clear h hX hY
  have HV := Lib.hid hv; clear hv
  have H1 := Lib.hid h1; clear h1
  clear HY
  have hT := two_new w N1 N2 X Y la ca lb cb
  go_enter Try.func20, Try.ntmps20
  go_upto_region 1 with fail
  generalize (w.alloc (.cells #[.int .i64 N1, .slice X la ca] 30)).alloc (.cells #[.int .i64 N2, .slice Y lb cb] 30) = W at *
  have c0 := hT.s.c0
  have c1 := hT.s.c1
  have d0 := hT.t.c0
  have d1 := hT.t.c1
  go_wp2_with fail
  refine (gvalid_yes _ _ _ _ _ _ _ (HH.out.below hT.b) HV.out).mono ?_; rintro e w1 ⟨rfl, b1⟩
  have hT1 := hT.next b1
  clear hT b1 c0 c1 d0 d1
  have c0 := hT1.s.c0
  have c1 := hT1.s.c1
  have d0 := hT1.t.c0
  have d1 := hT1.t.c1
  go_wp2_with fail
  refine (valid_no N1 X la ca f _ (HX.out.below hT1.b) H1.out).mono ?_; rintro e w2 ⟨rfl, b2⟩
  have hT2 := hT1.next b2
  clear hT1 b2 c0 c1 d0 d1
  have c0 := hT2.s.c0
  have c1 := hT2.s.c1
  have d0 := hT2.t.c0
  have d1 := hT2.t.c1
  go_wp2_with fail
  go_ret
  exact ⟨rfl, hT2.b⟩
theorem ck_1n (h : Prs w A k E) (hX : Wds w X la f) (hY : Wds w Y lb g) (hv : VG N M k E) (h1 : Vld N1 la f) (hne : N1 ≠ N) : CkC 20 N M k c p cp A B N1 N2 la ca lb cb X Y false w := by
  have HH := Lib.hid h
  have HX := Lib.hid hX
  have HY := Lib.hid hY
  clear h hX hY
  have HV := Lib.hid hv; clear hv
  have H1 := Lib.hid h1; clear h1
  have q1 : (N1 != N) = true := bne_iff_ne.2 hne
  clear hne HY
  have hT := two_new w N1 N2 X Y la ca lb cb
  go_enter Try.func20, Try.ntmps20
  go_upto_region 1 with fail
  generalize (w.alloc (.cells #[.int .i64 N1, .slice X la ca] 30)).alloc (.cells #[.int .i64 N2, .slice Y lb cb] 30) = W at *
  have c0 := hT.s.c0
  have c1 := hT.s.c1
  have d0 := hT.t.c0
  have d1 := hT.t.c1
  go_wp2_with fail
  refine (gvalid_yes _ _ _ _ _ _ _ (HH.out.below hT.b) HV.out).mono ?_; rintro e w1 ⟨rfl, b1⟩
  have hT1 := hT.next b1
  clear hT b1 c0 c1 d0 d1
  have c0 := hT1.s.c0
  have c1 := hT1.s.c1
  have d0 := hT1.t.c0
  have d1 := hT1.t.c1
  go_wp2_with fail
  refine (valid_yes N1 X la ca f _ (HX.out.below hT1.b) H1.out).mono ?_; rintro e w2 ⟨rfl, b2⟩
  have hT2 := hT1.next b2
  clear hT1 b2 c0 c1 d0 d1
  have c0 := hT2.s.c0
  have c1 := hT2.s.c1
  have d0 := hT2.t.c0
  have d1 := hT2.t.c1
  go_wp2_with fail
  go_ret
  exact ⟨rfl, hT2.b⟩
theorem ck_2 (h : Prs w A k E) (hX : Wds w X la f) (hY : Wds w Y lb g) (hv : VG N M k E) (h1 : Vld N1 la f) (he : N1 = N) (h2 : ¬ Vld N2 lb g) : CkC 20 N M k c p cp A B N1 N2 la ca lb cb X Y false w := by
  have HH := Lib.hid h
  have HX := Lib.hid hX
  have HY := Lib.hid hY
  clear h hX hY
  have HV := Lib.hid hv; clear hv
  have H1 := Lib.hid h1; clear h1
  have H2 := Lib.hid h2; clear h2
  have q1 : (N1 != N) = false := by simp [he]
  clear he
  have hT := two_new w N1 N2 X Y la ca lb cb
  go_enter Try.func20, Try.ntmps20
  go_upto_region 1 with fail
  generalize (w.alloc (.cells #[.int .i64 N1, .slice X la ca] 30)).alloc (.cells #[.int .i64 N2, .slice Y lb cb] 30) = W at *
  have c0 := hT.s.c0
  have c1 := hT.s.c1
  have d0 := hT.t.c0
  have d1 := hT.t.c1
  go_wp2_with fail
  refine (gvalid_yes _ _ _ _ _ _ _ (HH.out.below hT.b) HV.out).mono ?_; rintro e w1 ⟨rfl, b1⟩
  have hT1 := hT.next b1
  clear hT b1 c0 c1 d0 d1
  have c0 := hT1.s.c0
  have c1 := hT1.s.c1
  have d0 := hT1.t.c0
  have d1 := hT1.t.c1
  go_wp2_with fail
  refine (valid_yes N1 X la ca f _ (HX.out.below hT1.b) H1.out).mono ?_; rintro e w2 ⟨rfl, b2⟩
  have hT2 := hT1.next b2
  clear hT1 b2 c0 c1 d0 d1
  have c0 := hT2.s.c0
  have c1 := hT2.s.c1
  have d0 := hT2.t.c0
  have d1 := hT2.t.c1
  go_wp2_with fail
  refine (valid_no N2 Y lb cb g _ (HY.out.below hT2.b) H2.out).mono ?_; rintro e w3 ⟨rfl, b3⟩
  have hT3 := hT2.next b3
  clear hT2 b3 c0 c1 d0 d1
  have c0 := hT3.s.c0
  have c1 := hT3.s.c1
  have d0 := hT3.t.c0
  have d1 := hT3.t.c1
  go_wp2_with fail
  go_ret
  exact ⟨rfl, hT3.b⟩
theorem ck_2n (h : Prs w A k E) (hX : Wds w X la f) (hY : Wds w Y lb g) (hv : VG N M k E) (h1 : Vld N1 la f) (he : N1 = N) (h2 : Vld N2 lb g) (hne : N2 ≠ M) : CkC 20 N M k c p cp A B N1 N2 la ca lb cb X Y false w := by
  have HH := Lib.hid h
  have HX := Lib.hid hX
  have HY := Lib.hid hY
  clear h hX hY
  have HV := Lib.hid hv; clear hv
  have H1 := Lib.hid h1; clear h1
  have H2 := Lib.hid h2; clear h2
  have q1 : (N1 != N) = false := by simp [he]
  have q2 : (N2 != M) = true := bne_iff_ne.2 hne
  clear he hne
  have hT := two_new w N1 N2 X Y la ca lb cb
  go_enter Try.func20, Try.ntmps20
  go_upto_region 1 with fail
  generalize (w.alloc (.cells #[.int .i64 N1, .slice X la ca] 30)).alloc (.cells #[.int .i64 N2, .slice Y lb cb] 30) = W at *
  have c0 := hT.s.c0
  have c1 := hT.s.c1
  have d0 := hT.t.c0
  have d1 := hT.t.c1
  go_wp2_with fail
  refine (gvalid_yes _ _ _ _ _ _ _ (HH.out.below hT.b) HV.out).mono ?_; rintro e w1 ⟨rfl, b1⟩
  have hT1 := hT.next b1
  clear hT b1 c0 c1 d0 d1
  have c0 := hT1.s.c0
  have c1 := hT1.s.c1
  have d0 := hT1.t.c0
  have d1 := hT1.t.c1
  go_wp2_with fail
  refine (valid_yes N1 X la ca f _ (HX.out.below hT1.b) H1.out).mono ?_; rintro e w2 ⟨rfl, b2⟩
  have hT2 := hT1.next b2
  clear hT1 b2 c0 c1 d0 d1
  have c0 := hT2.s.c0
  have c1 := hT2.s.c1
  have d0 := hT2.t.c0
  have d1 := hT2.t.c1
  go_wp2_with fail
  refine (valid_yes N2 Y lb cb g _ (HY.out.below hT2.b) H2.out).mono ?_; rintro e w3 ⟨rfl, b3⟩
  have hT3 := hT2.next b3
  clear hT2 b3 c0 c1 d0 d1
  have c0 := hT3.s.c0
  have c1 := hT3.s.c1
  have d0 := hT3.t.c0
  have d1 := hT3.t.c1
  go_wp2_with fail
  go_ret
  exact ⟨rfl, hT3.b⟩
theorem rck_g (h : Prs w A k E) (hX : Wds w X la f) (hY : Wds w Y lb g) (hv : ¬ VG N M k E) : CkC 21 N M k c p cp A B N1 N2 la ca lb cb X Y false w := by
  have HH := Lib.hid h
  have HX := Lib.hid hX
  have HY := Lib.hid hY
  clear h hX hY
  have HV := Lib.hid hv; clear hv
  clear HX HY
  have hT := two_new w N1 N2 X Y la ca lb cb
  go_enter Try.func21, Try.ntmps21
  go_upto_region 1 with fail
  generalize (w.alloc (.cells #[.int .i64 N1, .slice X la ca] 30)).alloc (.cells #[.int .i64 N2, .slice Y lb cb] 30) = W at *
  have c0 := hT.s.c0
  have c1 := hT.s.c1
  have d0 := hT.t.c0
  have d1 := hT.t.c1
  go_wp2_with fail
  refine (rValid_no _ _ _ _ _ _ _ (HH.out.below hT.b) HV.out).mono ?_; rintro e w1 ⟨rfl, b1⟩
  have hT1 := hT.next b1
  clear hT b1 c0 c1 d0 d1
  have c0 := hT1.s.c0
  have c1 := hT1.s.c1
  have d0 := hT1.t.c0
  have d1 := hT1.t.c1
  go_wp2_with fail
  go_ret
  exact ⟨rfl, hT1.b⟩
theorem rck_1 (h : Prs w A k E) (hX : Wds w X la f) (hY : Wds w Y lb g) (hv : VG N M k E) (h1 : ¬ (N1 = N ∧ Vld N1 la f)) : CkC 21 N M k c p cp A B N1 N2 la ca lb cb X Y false w := by
  have HH := Lib.hid h
  have HX := Lib.hid hX
  have HY := Lib.hid hY
  clear h hX hY
  have HV := Lib.hid hv; clear hv
  have H1 := Lib.hid h1; clear h1
  clear HY
  have hT := two_new w N1 N2 X Y la ca lb cb
  go_enter Try.func21, Try.ntmps21
  go_upto_region 1 with fail
  generalize (w.alloc (.cells #[.int .i64 N1, .slice X la ca] 30)).alloc (.cells #[.int .i64 N2, .slice Y lb cb] 30) = W at *
  have c0 := hT.s.c0
  have c1 := hT.s.c1
  have d0 := hT.t.c0
  have d1 := hT.t.c1
  go_wp2_with fail
  refine (rValid_yes _ _ _ _ _ _ _ (HH.out.below hT.b) HV.out).mono ?_; rintro e w1 ⟨rfl, b1⟩
  have hT1 := hT.next b1
  clear hT b1 c0 c1 d0 d1
  have c0 := hT1.s.c0
  have c1 := hT1.s.c1
  have d0 := hT1.t.c0
  have d1 := hT1.t.c1
  go_wp2_with fail
  refine (rIsSet_no N1 N X la ca f _ (HX.out.below hT1.b) H1.out).mono ?_; rintro e w2 ⟨rfl, b2⟩
  have hT2 := hT1.next b2
  clear hT1 b2 c0 c1 d0 d1
  have c0 := hT2.s.c0
  have c1 := hT2.s.c1
  have d0 := hT2.t.c0
  have d1 := hT2.t.c1
  go_wp2_with fail
  go_ret
  exact ⟨rfl, hT2.b⟩
end
theorem rck_2 (n : Nat) (M : Int) (k c p cp : Nat) (A B : Option Addr) (E : Nat → Int × Int) (N2 : Int) (la ca lb cb : Nat) (X Y : Option Addr) (f g : Nat → Nat) (w : World) (h : Prs w A k E) (hX : Wds w X la f) (hY : Wds w Y lb g) (hv : VG n M k E) (h1 : Vld n la f) (h2 : ¬ (N2 = M ∧ Vld N2 lb g)) : CkC 21 n M k c p cp A B n N2 la ca lb cb X Y false w := by
  have HH := Lib.hid h
  have HX := Lib.hid hX
  have HY := Lib.hid hY
  have HV := Lib.hid hv
  have H1 := Lib.hid h1
  have H2 := Lib.hid h2
  clear h hX hY hv h1 h2
  have hT := two_new w n N2 X Y la ca lb cb
  go_enter Try.func21, Try.ntmps21
  go_upto_region 1 with fail
  generalize (w.alloc (.cells #[.int .i64 n, .slice X la ca] 30)).alloc (.cells #[.int .i64 N2, .slice Y lb cb] 30) = W at *
  have c0 := hT.s.c0
  have c1 := hT.s.c1
  have d0 := hT.t.c0
  have d1 := hT.t.c1
  go_wp2_with fail
  refine (rValid_yes _ _ _ _ _ _ _ (HH.out.below hT.b) HV.out).mono ?_; rintro e w1 ⟨rfl, b1⟩
  have hT1 := hT.next b1
  clear hT b1 c0 c1 d0 d1
  have c0 := hT1.s.c0
  have c1 := hT1.s.c1
  have d0 := hT1.t.c0
  have d1 := hT1.t.c1
  go_wp2_with fail
  refine (rIsSet_yes n X la ca f _ (HX.out.below hT1.b) H1.out).mono ?_; rintro e w2 ⟨rfl, b2⟩
  have hT2 := hT1.next b2
  clear hT1 b2 c0 c1 d0 d1
  have c0 := hT2.s.c0
  have c1 := hT2.s.c1
  have d0 := hT2.t.c0
  have d1 := hT2.t.c1
  go_wp2_with fail
  refine (rIsSet_no N2 M Y lb cb g _ (HY.out.below hT2.b) H2.out).mono ?_; rintro e w3 ⟨rfl, b3⟩
  have hT3 := hT2.next b3
  clear hT2 b3 c0 c1 d0 d1
  have c0 := hT3.s.c0
  have c1 := hT3.s.c1
  have d0 := hT3.t.c0
  have d1 := hT3.t.c1
  go_wp2_with fail
  go_ret
  exact ⟨rfl, hT3.b⟩
set_option maxRecDepth 100000 in
set_option maxHeartbeats 4000000 in
theorem rck_ok (n m k c p cp : Nat) (A B : Option Addr) (E Z : Nat → Int × Int) (ca cb : Nat) (X Y : Option Addr) (f g : Nat → Nat) (w : World) (h : Prs w A k E) (hz : Prs w B p Z) (hp : p ≤ 9000000000000000000) (hX : Wds w X ((n + 63) / 64) f) (hY : Wds w Y ((m + 63) / 64) g) (hv : VG n m k E) (h1 : Vld n ((n + 63) / 64) f) (h2 : Vld m ((m + 63) / 64) g) (v : Bool)
    (hvv : v = true ↔ MatP E k Z p ∧ Cov E f g k ∧ p = bcnt f n + bcnt g m) : CkC 21 n m k c p cp A B n m ((n + 63) / 64) ca ((m + 63) / 64) cb X Y v w := by
  have hn := hv.n1
  have hm := hv.m1
  have hb1 := bcnt_le f n
  have hb2 := bcnt_le g m
  have HH := Lib.hid h
  have HZ := Lib.hid hz
  have HX := Lib.hid hX
  have HY := Lib.hid hY
  have HV := Lib.hid hv
  have H1 := Lib.hid h1
  have H2 := Lib.hid h2
  have HVV := Lib.hid hvv
  clear h hX hY hv h1 h2 hz hvv
  have hT := two_new w n m X Y ((n + 63) / 64) ca ((m + 63) / 64) cb
  go_enter Try.func21, Try.ntmps21
  go_upto_region 1 with fail
  generalize (w.alloc (.cells #[.int .i64 n, .slice X ((n + 63) / 64) ca] 30)).alloc (.cells #[.int .i64 m, .slice Y ((m + 63) / 64) cb] 30) = W at *
  have c0 := hT.s.c0
  have c1 := hT.s.c1
  have d0 := hT.t.c0
  have d1 := hT.t.c1
  go_wp2_with fail
  refine (rValid_yes _ _ _ _ _ _ _ (HH.out.below hT.b) HV.out).mono ?_; rintro e w1 ⟨rfl, b1⟩
  have hT1 := hT.next b1
  clear hT b1 c0 c1 d0 d1
  have c0 := hT1.s.c0
  have c1 := hT1.s.c1
  have d0 := hT1.t.c0
  have d1 := hT1.t.c1
  go_wp2_with fail
  refine (rIsSet_yes n X _ ca f _ (HX.out.below hT1.b) H1.out).mono ?_; rintro e w2 ⟨rfl, b2⟩
  have hT2 := hT1.next b2
  clear hT1 b2 c0 c1 d0 d1
  have c0 := hT2.s.c0
  have c1 := hT2.s.c1
  have d0 := hT2.t.c0
  have d1 := hT2.t.c1
  go_wp2_with fail
  refine (rIsSet_yes m Y _ cb g _ (HY.out.below hT2.b) H2.out).mono ?_; rintro e w3 ⟨rfl, b3⟩
  have hT3 := hT2.next b3
  clear hT2 b3 c0 c1 d0 d1
  clear H1 H2
  obtain ⟨vm, hvm⟩ : ∃ vm : Bool, vm = true ↔ MatP E k Z p := ⟨@decide _ (Classical.propDecidable _), @decide_eq_true_iff _ (Classical.propDecidable _)⟩
  obtain ⟨vc, hvc⟩ : ∃ vc : Bool, vc = true ↔ Cov E f g k := ⟨@decide _ (Classical.propDecidable _), @decide_eq_true_iff _ (Classical.propDecidable _)⟩
  have hres : v = (vm && (vc && decide (p = bcnt f n + bcnt g m))) := by
    refine Bool.eq_iff_iff.2 (HVV.out.trans ?_)
    simp only [Bool.and_eq_true, decide_eq_true_eq, hvm, hvc]
  have hq : ((p : Int) == ((bcnt f n : Nat) : Int) + ((bcnt g m : Nat) : Int)) = decide (p = bcnt f n + bcnt g m) := by
    by_cases e : p = bcnt f n + bcnt g m
    · rw [decide_eq_true e]; exact beq_iff_eq.2 (by omega)
    · rw [decide_eq_false e]; exact beq_false_of_ne (by omega)
  obtain ⟨vq, hvq⟩ : ∃ vq, decide (p = bcnt f n + bcnt g m) = vq := ⟨_, rfl⟩
  rw [hvq] at hres hq
  have hw : IntKind.i64.wrap (((bcnt f n : Nat) : Int) + ((bcnt g m : Nat) : Int)) = ((bcnt f n : Nat) : Int) + ((bcnt g m : Nat) : Int) := IntWalk.i64_in _ (by omega)
  have k0 := cell_regrown hT3.s.c0
  have k1 := cell_regrown hT3.s.c1
  have k2 := cell_regrown hT3.t.c0
  have k3 := cell_regrown hT3.t.c1
  have hXw := HX.out.below hT3.b
  have hYw := HY.out.below hT3.b
  have CA := Lib.hid (fun d os => Calls.regrown_of (isMat_any n m k c p cp A B E Z vm (grow (redrawn w3 d) os) ((HH.out.below hT3.b).below (below_regrown w3 d os)) HV.out ((HZ.out.below hT3.b).below (below_regrown w3 d os)) hp hvm))
  have CB := Lib.hid (fun d os => Calls.regrown_of (isCov_any n m k c ca cb A X Y E f g vc (grow (redrawn w3 d) os) ((HH.out.below hT3.b).below (below_regrown w3 d os)) HV.out (hXw.below (below_regrown w3 d os)) (hYw.below (below_regrown w3 d os)) hvc))
  have CC := Lib.hid (fun d os => Calls.regrown_of (rCount_any n X ((n + 63) / 64) ca f (grow (redrawn w3 d) os) (hXw.below (below_regrown w3 d os)) (by omega) rfl))
  have CD := Lib.hid (fun d os => Calls.regrown_of (rCount_any m Y ((m + 63) / 64) cb g (grow (redrawn w3 d) os) (hYw.below (below_regrown w3 d os)) (by omega) rfl))
  have HR := Lib.hid hres
  clear hXw hYw hvm hvc hvq HVV hres
  generalize bcnt f n = cf at *
  generalize bcnt g m = cg at *
  have B3 := hT3.b
  clear hT3
  have c0 : True := trivial
  cases vm with
  | false =>
    have hv1 : v = false := HR.out
    subst hv1
    go_upto_region 3 with fail
    refine wp_region_quiet_below (by kernel_rfl) (by kernel_rfl) ?_
    repeat (first | go_big_quiet_step (first | with_reducible exact CA.out _ _ | with_reducible exact CB.out _ _ | with_reducible exact CC.out _ _ | with_reducible exact CD.out _ _) | quiet_step (first | with_reducible exact CA.out _ _ | with_reducible exact CB.out _ _ | with_reducible exact CC.out _ _ | with_reducible exact CD.out _ _))
    refine wpQuiet_nil ?_
    intro _ hw'
    obtain ⟨⟨dq, osq⟩, hw''⟩ := hw'
    subst hw''
    clear k0 k1 k2 k3 CA CB CC CD
    have B4 := below_next B3 (below_regrown w3 dq osq)
    go_wp2_with fail
    go_ret
    exact ⟨rfl, B4⟩
  | true =>
    cases vc with
    | false =>
      have hv1 : v = false := HR.out
      subst hv1
      go_upto_region 3 with fail
      refine wp_region_quiet_below (by kernel_rfl) (by kernel_rfl) ?_
      repeat (first | go_big_quiet_step (first | with_reducible exact CA.out _ _ | with_reducible exact CB.out _ _ | with_reducible exact CC.out _ _ | with_reducible exact CD.out _ _) | quiet_step (first | with_reducible exact CA.out _ _ | with_reducible exact CB.out _ _ | with_reducible exact CC.out _ _ | with_reducible exact CD.out _ _))
      refine wpQuiet_nil ?_
      intro _ hw'
      obtain ⟨⟨dq, osq⟩, hw''⟩ := hw'
      subst hw''
      clear k0 k1 k2 k3 CA CB CC CD
      have B4 := below_next B3 (below_regrown w3 dq osq)
      go_wp2_with fail
      go_ret
      exact ⟨rfl, B4⟩
    | true =>
      have hv1 : v = vq := by have := HR.out; simpa using this
      subst hv1
      go_upto_region 3 with fail
      refine wp_region_quiet_below (by kernel_rfl) (by kernel_rfl) ?_
      repeat (first | go_big_quiet_step (first | with_reducible exact CA.out _ _ | with_reducible exact CB.out _ _ | with_reducible exact CC.out _ _ | with_reducible exact CD.out _ _) | quiet_step (first | with_reducible exact CA.out _ _ | with_reducible exact CB.out _ _ | with_reducible exact CC.out _ _ | with_reducible exact CD.out _ _))
      refine wpQuiet_nil ?_
      intro _ hw'
      obtain ⟨⟨dq, osq⟩, hw''⟩ := hw'
      subst hw''
      clear k0 k1 k2 k3 CA CB CC CD
      have B4 := below_next B3 (below_regrown w3 dq osq)
      go_wp2_with fail
      go_ret
      exact ⟨rfl, B4⟩
set_option maxRecDepth 100000 in
set_option maxHeartbeats 4000000 in
theorem ck_ok (n m k c p cp : Nat) (A B : Option Addr) (E Z : Nat → Int × Int) (ca cb : Nat) (X Y : Option Addr) (f g : Nat → Nat) (w : World) (h : Prs w A k E) (hz : Prs w B p Z) (hwf : ∀ i, i < p → WfP (Z i)) (hp : p ≤ 9000000000000000000) (hX : Wds w X ((n + 63) / 64) f) (hY : Wds w Y ((m + 63) / 64) g) (hv : VG n m k E) (h1 : Vld n ((n + 63) / 64) f) (h2 : Vld m ((m + 63) / 64) g) (v : Bool)
    (hvv : v = true ↔ MatP E k Z p ∧ Cov E f g k ∧ p = bcnt f n + bcnt g m) : CkC 20 n m k c p cp A B n m ((n + 63) / 64) ca ((m + 63) / 64) cb X Y v w := by
  have hn := hv.n1
  have hm := hv.m1
  have hk := hv.k2
  have hb1 := bcnt_le f n
  have hb2 := bcnt_le g m
  have HH := Lib.hid h
  have HZ := Lib.hid hz
  have HWF := Lib.hid hwf
  have HX := Lib.hid hX
  have HY := Lib.hid hY
  have HV := Lib.hid hv
  have H1 := Lib.hid h1
  have H2 := Lib.hid h2
  have HVV := Lib.hid hvv
  have qn : ((n : Int) != (n : Int)) = false := by simp
  have qm : ((m : Int) != (m : Int)) = false := by simp
  clear h hX hY hv h1 h2 hz hvv hwf
  have hT := two_new w n m X Y ((n + 63) / 64) ca ((m + 63) / 64) cb
  go_enter Try.func20, Try.ntmps20
  go_upto_region 1 with fail
  generalize (w.alloc (.cells #[.int .i64 n, .slice X ((n + 63) / 64) ca] 30)).alloc (.cells #[.int .i64 m, .slice Y ((m + 63) / 64) cb] 30) = W at *
  have c0 := hT.s.c0
  have c1 := hT.s.c1
  have d0 := hT.t.c0
  have d1 := hT.t.c1
  go_wp2_with fail
  refine (gvalid_yes _ _ _ _ _ _ _ (HH.out.below hT.b) HV.out).mono ?_; rintro e w1 ⟨rfl, b1⟩
  have hT1 := hT.next b1
  clear hT b1 c0 c1 d0 d1
  have c0 := hT1.s.c0
  have c1 := hT1.s.c1
  have d0 := hT1.t.c0
  have d1 := hT1.t.c1
  go_wp2_with fail
  refine (valid_yes n X _ ca f _ (HX.out.below hT1.b) H1.out).mono ?_; rintro e w2 ⟨rfl, b2⟩
  have hT2 := hT1.next b2
  clear hT1 b2 c0 c1 d0 d1
  have c0 := hT2.s.c0
  have c1 := hT2.s.c1
  have d0 := hT2.t.c0
  have d1 := hT2.t.c1
  go_wp2_with fail
  refine (valid_yes m Y _ cb g _ (HY.out.below hT2.b) H2.out).mono ?_; rintro e w3 ⟨rfl, b3⟩
  have hT3 := hT2.next b3
  clear hT2 b3 c0 c1 d0 d1
  have c0 := hT3.s.c0
  have c1 := hT3.s.c1
  have d0 := hT3.t.c0
  have d1 := hT3.t.c1
  go_wp2_with fail
  clear c0 c1 d0 d1 qn qm
  go_loopw [46] (fun i wr => ∃ K : Nat, K ≤ k ∧ i = .int .i64 K ∧ Cov E f g K ∧ Two w wr n m X Y ((n + 63) / 64) ca ((m + 63) / 64) cb) (fun i _ => k - (intOf i).toNat)
  case atStart => exact ⟨0, Nat.zero_le _, rfl, fun _ h => absurd h (Nat.not_lt_zero _), hT3⟩
  case round =>
    clear hT3
    obtain ⟨K, hK, rfl, hC, hT⟩ := hrel
    by_cases hlt : K < k
    · obtain ⟨b, off, rfl, hbl, hcz⟩ := (HH.out.below hT.b) (by omega)
      obtain ⟨x0, x1⟩ := hcz K hlt
      clear hcz
      obtain ⟨⟨g1, g2⟩, g3, g4⟩ := HV.out.ran K hlt
      obtain ⟨a, ha⟩ := Int.eq_ofNat_of_zero_le g1
      obtain ⟨x, hx⟩ := Int.eq_ofNat_of_zero_le g3
      have han : a < n := by omega
      have hxm : x < m := by omega
      have hwrap : IntKind.i64.wrap ((K : Int) + 1) = (K : Int) + 1 := IntWalk.i64_in _ (by omega)
      obtain ⟨va, hva⟩ : ∃ va, bt f a = va := ⟨_, rfl⟩
      obtain ⟨vb, hvb⟩ : ∃ vb, bt g x = vb := ⟨_, rfl⟩
      have hnext : Hid ((va = true ∨ vb = true) → Cov E f g (K + 1)) := fun h => hC.next (by rw [ha, hx]; rw [← hva, ← hvb] at h; exact h)
      have hno : Hid (va = false → vb = false → v = false) := fun h1 h2 => by
        cases hc : v with
        | false => rfl
        | true =>
          have := (HVV.out.1 hc).2.1 K hlt
          rw [ha, hx] at this
          rcases this with h | h
          · rw [show (a : Int).toNat = a from rfl, hva, h1] at h; cases h
          · rw [show (x : Int).toNat = x from rfl, hvb, h2] at h; cases h
      rw [ha] at x0
      rw [hx] at x1
      have bN := below_new wr (.cells #[.int .i64 a, .int .i64 x] 47)
      have eP : (wr.alloc (.cells #[.int .i64 a, .int .i64 x] 47)).heap[wr.heap.size]? = some (.cells #[.int .i64 a, .int .i64 x] 47 (0, 0)) := heap_alloc_new wr _
      have u0 := cell_of_row _ _ 0 _ _ _ eP
      have u1 := cell_of_row _ _ 1 _ _ _ eP
      have hpl := lt_of_block eP
      have hT5 := hT.next bN
      clear ha hx g1 g2 g3 g4 hC eP bN hT
      go_upto_region 8 with fail
      clear x0 x1
      generalize wr.alloc (.cells #[.int .i64 a, .int .i64 x] 47) = w5 at *
      generalize wr.heap.size = pb at *
      have HA := Lib.hid (has_in n a X ((n + 63) / 64) ca f va w5 (HX.out.below hT5.b) H1.out han hva)
      have c0 := hT5.s.c0
      have c1 := hT5.s.c1
      go_wp2_with fail
      refine HA.out.mono ?_; rintro e w6 ⟨rfl, b6⟩
      have hT6 := hT5.next b6
      have u1' := (b6.cell (p := ⟨pb, 1, none⟩) hpl).trans u1
      have HB := Lib.hid (has_in m x Y ((m + 63) / 64) cb g vb w6 (HY.out.below hT6.b) H2.out hxm hvb)
      clear u0 u1 HA b6 hT5 c0 c1 hva hvb
      cases va with
      | true =>
        have HN := Lib.hid (hnext.out (.inl rfl))
        clear hnext hno
        go_wp2_with fail
        go_roundw
        case rel => exact ⟨K + 1, hlt, by go_num, HN.out, hT6⟩
        case measure => simp [intOf]; omega
      | false =>
        have d0 := hT6.t.c0
        have d1 := hT6.t.c1
        go_wp2_with fail
        refine HB.out.mono ?_; rintro e w7 ⟨rfl, b7⟩
        have hT7 := hT6.next b7
        clear hT6 d0 d1 u1' HB b7
        cases vb with
        | true =>
          have HN := Lib.hid (hnext.out (.inr rfl))
          clear hnext hno
          go_wp2_with fail
          go_roundw
          case rel => exact ⟨K + 1, hlt, by go_num, HN.out, hT7⟩
          case measure => simp [intOf]; omega
        | false =>
          have hv1 : v = false := by have := hno.out; simpa using this
          subst hv1
          clear hnext hno
          go_wp2_with fail
          go_ret
          exact ⟨rfl, hT7.b⟩
    · obtain rfl : K = k := by omega
      have HM := Lib.hid (matched_any n m K c p cp A B E Z wr (HH.out.below hT.b) HV.out (HZ.out.below hT.b) HWF.out hp)
      unfold MtEnd at HM
      go_wp2_with fail
      refine HM.out.mono ?_; rintro e w4 (⟨hMP, lim, base, gN, gL, gR, V, hlim, rfl, hG, b4⟩ | ⟨hMP, rfl, b4⟩)
      · have bN := below_new w4 (.cells #[.slice (some ⟨gN, 0, none⟩) n n, .slice (some ⟨gL, 0, none⟩) n n, .slice (some ⟨gR, 0, none⟩) m m] 55)
        have hT5 := (hT.next b4).next bN
        clear hG HM hT b4 bN
        go_upto_region 12 with fail
        generalize w4.alloc (.cells #[.slice (some ⟨gN, 0, none⟩) n n, .slice (some ⟨gL, 0, none⟩) n n, .slice (some ⟨gR, 0, none⟩) m m] 55) = w5 at *
        generalize w4.heap.size = pb at *
        obtain ⟨vq, hvq⟩ : ∃ vq, decide (p = bcnt f n + bcnt g m) = vq := ⟨_, rfl⟩
        have hv1 : v = vq := by
          rw [← hvq]
          refine Bool.eq_iff_iff.2 (HVV.out.trans ?_)
          rw [decide_eq_true_iff]
          exact ⟨fun h => h.2.2, fun h => ⟨hMP, hC, h⟩⟩
        have hq : ((p : Int) == ((bcnt f n : Nat) : Int) + ((bcnt g m : Nat) : Int)) = vq := by
          rw [← hvq]
          by_cases e : p = bcnt f n + bcnt g m
          · rw [decide_eq_true e]; exact beq_iff_eq.2 (by omega)
          · rw [decide_eq_false e]; exact beq_false_of_ne (by omega)
        subst hv1
        have hw : IntKind.i64.wrap (((bcnt f n : Nat) : Int) + ((bcnt g m : Nat) : Int)) = ((bcnt f n : Nat) : Int) + ((bcnt g m : Nat) : Int) := IntWalk.i64_in _ (by omega)
        have k0 := cell_regrown hT5.s.c0
        have k1 := cell_regrown hT5.s.c1
        have k2 := cell_regrown hT5.t.c0
        have k3 := cell_regrown hT5.t.c1
        have hXw := HX.out.below hT5.b
        have hYw := HY.out.below hT5.b
        have CA := Lib.hid (fun d os => Calls.regrown_of (count_yes n X ((n + 63) / 64) ca f (grow (redrawn w5 d) os) (hXw.below (below_regrown w5 d os)) H1.out))
        have CB := Lib.hid (fun d os => Calls.regrown_of (count_yes m Y ((m + 63) / 64) cb g (grow (redrawn w5 d) os) (hYw.below (below_regrown w5 d os)) H2.out))
        rw [cnt_bcnt H1.out] at CA
        rw [cnt_bcnt H2.out] at CB
        clear hXw hYw hvq hMP hC
        generalize bcnt f n = cf at *
        generalize bcnt g m = cg at *
        have B3 := hT5.b
        clear hT5
        refine wp_region_quiet_below (by kernel_rfl) (by kernel_rfl) ?_
        repeat (first | go_big_quiet_step (first | with_reducible exact CA.out _ _ | with_reducible exact CB.out _ _) | quiet_step (first | with_reducible exact CA.out _ _ | with_reducible exact CB.out _ _))
        refine wpQuiet_nil ?_
        intro _ hw'
        obtain ⟨⟨dq, osq⟩, hw''⟩ := hw'
        subst hw''
        clear k0 k1 k2 k3 CA CB
        have B4 := below_next B3 (below_regrown w5 dq osq)
        go_wp2_with fail
        go_ret
        exact ⟨rfl, B4⟩
      · have bN := below_new w4 (.cells #[.slice none 0 0, .slice none 0 0, .slice none 0 0] 55)
        have hT5 := (hT.next b4).next bN
        clear HM hT b4 bN
        have hv1 : v = false := by
          cases hc : v with
          | false => rfl
          | true => exact absurd (HVV.out.1 hc).1 hMP
        subst hv1
        go_upto_region 12 with fail
        generalize w4.alloc (.cells #[.slice none 0 0, .slice none 0 0, .slice none 0 0] 55) = w5 at *
        generalize w4.heap.size = pb at *
        have B3 := hT5.b
        clear hT5 hMP hC
        refine wp_region_quiet_below (by kernel_rfl) (by kernel_rfl) ?_
        repeat (first | go_big_quiet_step (fail) | quiet_step (fail))
        refine wpQuiet_nil ?_
        intro _ hw'
        obtain ⟨⟨dq, osq⟩, hw''⟩ := hw'
        subst hw''
        have B4 := below_next B3 (below_regrown w5 dq osq)
        go_wp2_with fail
        go_ret
        exact ⟨rfl, B4⟩
section
variable (N M : Int) (k c p cp : Nat) (A B : Option Addr) (E Z : Nat → Int × Int) (N1 N2 : Int) (la ca lb cb : Nat) (X Y : Option Addr) (f g : Nat → Nat) (v : Bool) (w : World)
theorem ck_any (h : Prs w A k E) (hz : Prs w B p Z) (hwf : ∀ i, i < p → WfP (Z i)) (hp : p ≤ 9000000000000000000) (hX : Wds w X la f) (hY : Wds w Y lb g) (hvv : v = true ↔ CkP N M k p E Z N1 N2 la lb f g) : CkC 20 N M k c p cp A B N1 N2 la ca lb cb X Y v w := by
  have no : ¬ CkP N M k p E Z N1 N2 la lb f g → v = false := fun hn => by
    cases hc : v with
    | false => rfl
    | true => exact absurd (hvv.1 hc) hn
  by_cases hv : VG N M k E
  · by_cases h1 : Vld N1 la f
    · by_cases e1 : N1 = N
      · by_cases h2 : Vld N2 lb g
        · by_cases e2 : N2 = M
          · subst e1 e2
            obtain ⟨n, rfl⟩ := Int.eq_ofNat_of_zero_le hv.n0
            obtain ⟨m, rfl⟩ := Int.eq_ofNat_of_zero_le hv.m0
            obtain rfl : la = (n + 63) / 64 := by have := h1.2.2.1; simpa using this
            obtain rfl : lb = (m + 63) / 64 := by have := h2.2.2.1; simpa using this
            refine ck_ok n m k c p cp A B E Z ca cb X Y f g w h hz hwf hp hX hY hv h1 h2 v (hvv.trans ?_)
            exact ⟨fun h => h.2.2.2, fun h => ⟨hv, ⟨rfl, h1⟩, ⟨rfl, h2⟩, h⟩⟩
          · rw [no (fun h => e2 h.2.2.1.1)]; exact ck_2n N M k c p cp A B E N1 N2 la ca lb cb X Y f g w h hX hY hv h1 e1 h2 e2
        · rw [no (fun h => h2 h.2.2.1.2)]; exact ck_2 N M k c p cp A B E N1 N2 la ca lb cb X Y f g w h hX hY hv h1 e1 h2
      · rw [no (fun h => e1 h.2.1.1)]; exact ck_1n N M k c p cp A B E N1 N2 la ca lb cb X Y f g w h hX hY hv h1 e1
    · rw [no (fun h => h1 h.2.1.2)]; exact ck_1 N M k c p cp A B E N1 N2 la ca lb cb X Y f g w h hX hY hv h1
  · rw [no (fun h => hv h.1)]; exact ck_g N M k c p cp A B E N1 N2 la ca lb cb X Y f g w h hX hY hv
theorem rck_any (h : Prs w A k E) (hz : Prs w B p Z) (hp : p ≤ 9000000000000000000) (hX : Wds w X la f) (hY : Wds w Y lb g) (hvv : v = true ↔ CkP N M k p E Z N1 N2 la lb f g) : CkC 21 N M k c p cp A B N1 N2 la ca lb cb X Y v w := by
  have no : ¬ CkP N M k p E Z N1 N2 la lb f g → v = false := fun hn => by
    cases hc : v with
    | false => rfl
    | true => exact absurd (hvv.1 hc) hn
  by_cases hv : VG N M k E
  · by_cases h1 : N1 = N ∧ Vld N1 la f
    · obtain ⟨n, rfl⟩ := Int.eq_ofNat_of_zero_le hv.n0
      obtain ⟨rfl, h1⟩ := h1
      by_cases h2 : N2 = M ∧ Vld N2 lb g
      · obtain ⟨m, rfl⟩ := Int.eq_ofNat_of_zero_le hv.m0
        obtain ⟨rfl, h2⟩ := h2
        obtain rfl : la = (n + 63) / 64 := by have := h1.2.2.1; simpa using this
        obtain rfl : lb = (m + 63) / 64 := by have := h2.2.2.1; simpa using this
        refine rck_ok n m k c p cp A B E Z ca cb X Y f g w h hz hp hX hY hv h1 h2 v (hvv.trans ?_)
        exact ⟨fun h => h.2.2.2, fun h => ⟨hv, ⟨rfl, h1⟩, ⟨rfl, h2⟩, h⟩⟩
      · rw [no (fun h => h2 h.2.2.1)]; exact rck_2 n M k c p cp A B E N2 la ca lb cb X Y f g w h hX hY hv h1 h2
    · rw [no (fun h => h1 h.2.1)]; exact rck_1 N M k c p cp A B E N1 N2 la ca lb cb X Y f g w h hX hY hv h1
  · rw [no (fun h => hv h.1)]; exact rck_g N M k c p cp A B E N1 N2 la ca lb cb X Y f g w h hX hY hv
end
end Go.Proofs.Ytmafnncpdccfdaa
