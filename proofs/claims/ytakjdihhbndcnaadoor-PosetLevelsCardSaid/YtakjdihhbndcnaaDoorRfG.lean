/- The reference of sets: Same, Has, Count, Comparable. -/
import Derived.Test.YtakjdihhbndcnaaDoorRfB
import Derived.Lib.QuietBelow
namespace Go.Proofs.YtakjdihhbndcnaaDoor
open Go.RowKit Go.Sort
/- two sets with the same N and equally many words: all words are equal, or there is a first one that is not -/
theorem refSame_any (N : Int) (A B : Option Addr) (m ca cb : Nat) (f g : Nat → Nat) (J : Nat) (v : Bool) (w : World) (ha : Wds w A m f) (hb : Wds w B m g) (hm : m ≤ 1000) (hJ : J ≤ m)
    (hz : ∀ k, k < J → f k = g k) (hv : (v = true ∧ J = m) ∨ (v = false ∧ J < m ∧ f J ≠ g J)) :
    Calls Tryd.prog 28 #[.agg #[.int .i64 N, .slice A m ca], .agg #[.int .i64 N, .slice B m cb]] w fun e w' => e = .returned (.bool v) ∧ Below w.heap.size w w' := by
  have HA := Lib.hid ha; clear ha
  have HB := Lib.hid hb; clear hb
  have HZ := Lib.hid hz; clear hz
  have HV := Lib.hid hv; clear hv
  go_enter Tryd.func28, Tryd.ntmps28
  go_wp2
  go_loopw [5] (fun i wr => ∃ K : Nat, K ≤ J ∧ i = .int .i64 K ∧ Two w wr N N A B m ca m cb) (fun i _ => J - (intOf i).toNat)
  case atStart => exact ⟨0, by omega, rfl, two_new w N N A B m ca m cb⟩
  case round =>
    obtain ⟨K, hK, rfl, hT⟩ := hrel
    have c1 := hT.s.c1
    have d1 := hT.t.c1
    have HA2 := HA.out.below hT.b
    have HB2 := HB.out.below hT.b
    by_cases hlt : K < m
    · obtain ⟨b1, o1, rfl, hb1, hc1⟩ := HA2.2 (by omega)
      obtain ⟨b2, o2, rfl, hb2, hc2⟩ := HB2.2 (by omega)
      have x1 := hc1 K hlt
      have x2 := hc2 K hlt
      clear hc1 hc2 HA2 HB2
      have hi0 : (0 : Int) ≤ (K : Int) := by omega
      have hi1 : (K : Int) < (m : Int) := by omega
      by_cases hlt2 : K < J
      · have he := HZ.out K hlt2
        rw [← he] at x2
        have HE := Lib.hid he; clear he
        go_wp2_with fail
        go_quiet (fail)
        go_wp2_with fail
        go_roundw
        case rel => exact ⟨K + 1, by omega, by go_num, hT.drewN _⟩
        case measure => simp [intOf]; omega
      · obtain rfl : K = J := by omega
        rcases HV.out with ⟨_, h2⟩ | ⟨rfl, _, hne⟩
        · omega
        · have hne1 : ((f K : Int) == (g K : Int)) = false := beq_false_of_ne (by omega)
          have hne2 : ((f K : Int) != (g K : Int)) = true := by simp only [bne, hne1]; rfl
          have HN := Lib.hid hne; clear hne
          go_wp2_with fail
          go_quiet (fail)
          go_wp2_with fail
          go_ret
          exact ⟨rfl, (hT.drewN _).b⟩
    · rcases HV.out with ⟨rfl, h2⟩ | ⟨_, h2, _⟩
      · have HJ := Lib.hid h2
        clear HA2 HB2 h2
        go_wp2_with fail
        go_ret
        exact ⟨rfl, hT.b⟩
      · omega
theorem refHas_in (N : Nat) (i : Nat) (A : Option Addr) (la ca : Nat) (f : Nat → Nat) (v : Bool) (w : World) (ha : Wds w A la f) (hv : Vld N la f) (hi : i < N) (hb : bt f i = v) :
    Calls Tryd.prog 41 #[.agg #[.int .i64 N, .slice A la ca], .int .i64 i] w fun e w' => e = .returned (.bool v) ∧ Below w.heap.size w w' := by
  have h1 := hv.2.1
  have h2 := hv.2.2.1
  simp only [Int.toNat_natCast] at h2
  have HA := Lib.hid ha; clear ha
  have HV := Lib.hid hv; clear hv
  have HB := Lib.hid hb; clear hb
  have hi64 : i < 64 * la := by omega
  have hl : la ≤ 1000 := by omega
  have H2 := Lib.hid h2; clear h2
  go_enter Tryd.func41, Tryd.ntmps41
  go_wp2_with fail
  have hO := one_new w N A la ca
  refine (refValid_yes _ _ _ _ _ _ (HA.out.below hO.b) HV.out).mono ?_; rintro e w2 ⟨rfl, b2⟩
  have c0 := (hO.next b2).s.c0
  have c1 := (hO.next b2).s.c1
  go_wp2_with fail
  refine (bit_any N A la ca f i v _ (HA.out.below (hO.next b2).b) hi64 hl HB.out).mono ?_; rintro e w3 ⟨rfl, b3⟩
  go_wp2_with fail
  go_ret
  exact ⟨by simp, (hO.next b2 |>.next b3).b⟩
theorem refHas_out (N i : Int) (A : Option Addr) (la ca : Nat) (f : Nat → Nat) (w : World) (ha : Wds w A la f) (h : ¬ (Vld N la f ∧ 0 ≤ i ∧ i < N)) :
    Calls Tryd.prog 41 #[.agg #[.int .i64 N, .slice A la ca], .int .i64 i] w fun e w' => e = .returned (.bool false) ∧ Below w.heap.size w w' := by
  have HA := Lib.hid ha; clear ha
  have hO := one_new w N A la ca
  by_cases hv : Vld N la f
  · have HV := Lib.hid hv
    by_cases h0 : i < 0
    · have hd : decide (0 ≤ i) = false := decide_eq_false (by omega)
      clear h hv
      go_enter Tryd.func41, Tryd.ntmps41
      go_wp2_with fail
      refine (refValid_yes _ _ _ _ _ _ (HA.out.below hO.b) HV.out).mono ?_; rintro e w2 ⟨rfl, b2⟩
      go_wp2_with fail
      go_ret
      exact ⟨rfl, (hO.next b2).b⟩
    · have h1 : N ≤ i := by
        rcases Int.lt_or_le i N with h2 | h2
        · exact absurd ⟨hv, by omega, h2⟩ h
        · exact h2
      have hd : decide (i < N) = false := decide_eq_false (by omega)
      have hd0 : decide (0 ≤ i) = true := decide_eq_true (by omega)
      clear h hv
      go_enter Tryd.func41, Tryd.ntmps41
      go_wp2_with fail
      refine (refValid_yes _ _ _ _ _ _ (HA.out.below hO.b) HV.out).mono ?_; rintro e w2 ⟨rfl, b2⟩
      have c0 := (hO.next b2).s.c0
      go_wp2_with fail
      go_ret
      exact ⟨by simp, (hO.next b2).b⟩
  · have HV := Lib.hid hv
    clear h hv
    go_enter Tryd.func41, Tryd.ntmps41
    go_wp2_with fail
    refine (refValid_no _ _ _ _ _ _ (HA.out.below hO.b) HV.out).mono ?_; rintro e w2 ⟨rfl, b2⟩
    go_wp2_with fail
    go_ret
    exact ⟨rfl, (hO.next b2).b⟩
theorem refCount_yes (N : Nat) (A : Option Addr) (la ca : Nat) (f : Nat → Nat) (w : World) (ha : Wds w A la f) (hv : Vld N la f) :
    Calls Tryd.prog 91 #[.agg #[.int .i64 N, .slice A la ca]] w fun e w' => e = .returned (.int .i64 ((mem f N).length : Nat)) ∧ Below w.heap.size w w' := by
  have h1 := hv.2.1
  have h2 := hv.2.2.1
  simp only [Int.toNat_natCast] at h2
  have HA := Lib.hid ha; clear ha
  have HV := Lib.hid hv; clear hv
  have hN64 : N ≤ 64 * la := by omega
  have hl9 : la ≤ 9 := by omega
  have H2 := Lib.hid h2; clear h2
  have hO := one_new w N A la ca
  go_enter Tryd.func91, Tryd.ntmps91
  go_wp2_with fail
  refine (refValid_yes _ _ _ _ _ _ (HA.out.below hO.b) HV.out).mono ?_; rintro e w2 ⟨rfl, b2⟩
  have c0 := (hO.next b2).s.c0
  have c1 := (hO.next b2).s.c1
  go_wp2_with fail
  refine (refMembers_any N A la ca f _ (HA.out.below (hO.next b2).b) hN64 hl9).mono ?_; rintro e w3 ⟨v, rfl, hown, b3⟩
  obtain ⟨A', c', rfl, hi, _⟩ := own_ints hown
  go_wp2_with fail
  go_ret
  exact ⟨rfl, (hO.next b2 |>.next b3).b⟩
theorem refCount_no (N : Int) (A : Option Addr) (la ca : Nat) (f : Nat → Nat) (w : World) (ha : Wds w A la f) (hv : ¬ Vld N la f) :
    Calls Tryd.prog 91 #[.agg #[.int .i64 N, .slice A la ca]] w fun e w' => e = .returned (.int .i64 0) ∧ Below w.heap.size w w' := by
  have HA := Lib.hid ha; clear ha
  have HV := Lib.hid hv; clear hv
  have hO := one_new w N A la ca
  go_enter Tryd.func91, Tryd.ntmps91
  go_wp2_with fail
  refine (refValid_no _ _ _ _ _ _ (HA.out.below hO.b) HV.out).mono ?_; rintro e w2 ⟨rfl, b2⟩
  go_wp2_with fail
  go_ret
  exact ⟨rfl, (hO.next b2).b⟩
theorem refCmp_no (N M : Int) (A B : Option Addr) (la ca lb cb : Nat) (f g : Nat → Nat) (w : World) (ha : Wds w A la f) (hb : Wds w B lb g) (h : ¬ (Vld N la f ∧ Vld M lb g ∧ N = M)) :
    Calls Tryd.prog 74 #[.agg #[.int .i64 N, .slice A la ca], .agg #[.int .i64 M, .slice B lb cb]] w fun e w' => e = .returned (.bool false) ∧ Below w.heap.size w w' := by
  have HA := Lib.hid ha; clear ha
  have HB := Lib.hid hb; clear hb
  have hT := two_new w N M A B la ca lb cb
  by_cases hv : Vld N la f
  · have HV := Lib.hid hv
    by_cases hu : Vld M lb g
    · have HU := Lib.hid hu
      have hne : (N == M) = false := beq_false_of_ne (fun h2 => h ⟨hv, hu, h2⟩)
      clear h hv hu
      go_enter Tryd.func74, Tryd.ntmps74
      go_wp2_with fail
      refine (refValid_yes _ _ _ _ _ _ (HA.out.below hT.b) HV.out).mono ?_; rintro e w2 ⟨rfl, b2⟩
      have d0 := (hT.next b2).t.c0
      have d1 := (hT.next b2).t.c1
      go_wp2_with fail
      refine (refValid_yes _ _ _ _ _ _ (HB.out.below (hT.next b2).b) HU.out).mono ?_; rintro e w3 ⟨rfl, b3⟩
      clear d0 d1
      have c0 := (hT.next b2 |>.next b3).s.c0
      have d0 := (hT.next b2 |>.next b3).t.c0
      go_wp2_with fail
      go_ret
      exact ⟨rfl, (hT.next b2 |>.next b3).b⟩
    · have HU := Lib.hid hu
      clear h hv hu
      go_enter Tryd.func74, Tryd.ntmps74
      go_wp2_with fail
      refine (refValid_yes _ _ _ _ _ _ (HA.out.below hT.b) HV.out).mono ?_; rintro e w2 ⟨rfl, b2⟩
      have d0 := (hT.next b2).t.c0
      have d1 := (hT.next b2).t.c1
      go_wp2_with fail
      refine (refValid_no _ _ _ _ _ _ (HB.out.below (hT.next b2).b) HU.out).mono ?_; rintro e w3 ⟨rfl, b3⟩
      go_wp2_with fail
      go_ret
      exact ⟨rfl, (hT.next b2 |>.next b3).b⟩
  · have HV := Lib.hid hv
    clear h hv
    go_enter Tryd.func74, Tryd.ntmps74
    go_wp2_with fail
    refine (refValid_no _ _ _ _ _ _ (HA.out.below hT.b) HV.out).mono ?_; rintro e w2 ⟨rfl, b2⟩
    go_wp2_with fail
    go_ret
    exact ⟨rfl, (hT.next b2).b⟩
end Go.Proofs.YtakjdihhbndcnaaDoor
