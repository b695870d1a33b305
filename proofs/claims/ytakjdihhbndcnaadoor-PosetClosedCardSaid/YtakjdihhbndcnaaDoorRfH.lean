/- The reference of sets: Subset. -/
import Derived.Test.YtakjdihhbndcnaaDoorRfG
namespace Go.Proofs.YtakjdihhbndcnaaDoor
open Go.RowKit Go.Sort
theorem refSubset_no (N M : Int) (A B : Option Addr) (la ca lb cb : Nat) (f g : Nat → Nat) (w : World) (ha : Wds w A la f) (hb : Wds w B lb g) (h : ¬ (Vld N la f ∧ Vld M lb g ∧ N = M)) :
    Calls Tryd.prog 40 #[.agg #[.int .i64 N, .slice A la ca], .agg #[.int .i64 M, .slice B lb cb]] w fun e w' => e = .returned (.bool false) ∧ Below w.heap.size w w' := by
  have HA := Lib.hid ha; clear ha
  have HB := Lib.hid hb; clear hb
  have HN := Lib.hid h; clear h
  have hT := two_new w N M A B la ca lb cb
  go_enter Tryd.func40, Tryd.ntmps40
  go_wp2_with fail
  refine (refCmp_no _ _ _ _ _ _ _ _ _ _ _ (HA.out.below hT.b) (HB.out.below hT.b) HN.out).mono ?_; rintro e w2 ⟨rfl, b2⟩
  go_wp2_with fail
  go_ret
  exact ⟨rfl, (hT.next b2).b⟩
set_option maxHeartbeats 1000000 in
theorem refSubset_any (N : Nat) (A B : Option Addr) (m ca cb : Nat) (f g : Nat → Nat) (J : Nat) (v : Bool) (w : World) (ha : Wds w A m f) (hb : Wds w B m g) (va : Vld N m f) (vb : Vld N m g) (hJ : J ≤ N)
    (hz : ∀ i, i < J → bt f i = true → bt g i = true) (hv : (v = true ∧ J = N) ∨ (v = false ∧ J < N ∧ bt f J = true ∧ bt g J = false)) :
    Calls Tryd.prog 40 #[.agg #[.int .i64 N, .slice A m ca], .agg #[.int .i64 N, .slice B m cb]] w fun e w' => e = .returned (.bool v) ∧ Below w.heap.size w w' := by
  have h1 := va.2.1
  have h2 := va.2.2.1
  simp only [Int.toNat_natCast] at h2
  have hN64 : N ≤ 64 * m := by omega
  have hm9 : m ≤ 1000 := by omega
  have H2 := Lib.hid h2; clear h2
  have HA := Lib.hid ha; clear ha
  have HB := Lib.hid hb; clear hb
  have VA := Lib.hid va; clear va
  have VB := Lib.hid vb; clear vb
  have HZ := Lib.hid hz; clear hz
  have HV := Lib.hid hv; clear hv
  have hT0 := two_new w N N A B m ca m cb
  go_enter Tryd.func40, Tryd.ntmps40
  go_wp2_with fail
  refine (refCmp_yes _ _ _ _ _ _ _ _ _ _ (HA.out.below hT0.b) (HB.out.below hT0.b) VA.out VB.out).mono ?_; rintro e w0 ⟨rfl, b0⟩
  have hT1 := hT0.next b0
  clear hT0 b0
  go_wp2_with fail
  go_loopw [5] (fun i wr => ∃ K : Nat, K ≤ J ∧ i = .int .i64 K ∧ Two w wr N N A B m ca m cb) (fun i _ => J - (intOf i).toNat)
  case atStart => exact ⟨0, by omega, rfl, hT1⟩
  case round =>
    clear hT1
    obtain ⟨K, hK, rfl, hT⟩ := hrel
    have c0 := hT.s.c0
    have c1 := hT.s.c1
    by_cases hlt : K < N
    · have HA2 : Hid (Wds wr A m f) := HA.out.below hT.b
      cases hbf : bt f K
      · have HBf := Lib.hid hbf; clear hbf
        have hKJ : K < J := by
          rcases HV.out with ⟨_, h2⟩ | ⟨_, _, h3, _⟩
          · omega
          · rcases Nat.lt_or_ge K J with h | h
            · exact h
            · have e : K = J := by omega
              have := HBf.out; rw [e, h3] at this; cases this
        go_wp2_with fail
        refine (bit_any N A m ca f K false _ HA2.out (by omega) hm9 HBf.out).mono ?_; rintro e w2 ⟨rfl, b2⟩
        go_wp2_with fail
        go_roundw
        case rel => exact ⟨K + 1, by omega, by go_num, hT.next b2⟩
        case measure => simp [intOf]; omega
      · have HBf := Lib.hid hbf; clear hbf
        go_wp2_with fail
        refine (bit_any N A m ca f K true _ HA2.out (by omega) hm9 HBf.out).mono ?_; rintro e w2 ⟨rfl, b2⟩
        have hT2 := hT.next b2
        have d0 := hT2.t.c0
        have d1 := hT2.t.c1
        have HB2 : Hid (Wds w2 B m g) := HB.out.below hT2.b
        clear c0 c1
        by_cases hKJ : K < J
        · have HBg := Lib.hid (HZ.out K hKJ HBf.out)
          go_wp2_with fail
          refine (bit_any N B m cb g K true _ HB2.out (by omega) hm9 HBg.out).mono ?_; rintro e w3 ⟨rfl, b3⟩
          go_wp2_with fail
          go_roundw
          case rel => exact ⟨K + 1, by omega, by go_num, hT2.next b3⟩
          case measure => simp [intOf]; omega
        · obtain rfl : K = J := by omega
          rcases HV.out with ⟨_, h2⟩ | ⟨rfl, _, _, h4⟩
          · omega
          · have HBg := Lib.hid h4; clear h4
            go_wp2_with fail
            refine (bit_any N B m cb g K false _ HB2.out (by omega) hm9 HBg.out).mono ?_; rintro e w3 ⟨rfl, b3⟩
            go_wp2_with fail
            go_ret
            exact ⟨rfl, (hT2.next b3).b⟩
    · rcases HV.out with ⟨rfl, h2⟩ | ⟨_, h2, _⟩
      · have HJ := Lib.hid h2; clear h2
        go_wp2_with fail
        go_ret
        exact ⟨rfl, hT.b⟩
      · omega
end Go.Proofs.YtakjdihhbndcnaaDoor
