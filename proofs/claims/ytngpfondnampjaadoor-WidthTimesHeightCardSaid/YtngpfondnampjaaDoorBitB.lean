/- The contract of package bits: Subset. -/
import Derived.Test.YtngpfondnampjaaDoorBitA
import Derived.Lib.QuietBelow
namespace Go.Proofs.YtngpfondnampjaaDoor
open Go.RowKit Go.Sort
theorem subset_no (N M : Int) (A B : Option Addr) (la ca lb cb : Nat) (f g : Nat → Nat) (w : World) (ha : Wds w A la f) (hb : Wds w B lb g) (h : ¬ (Vld N la f ∧ Vld M lb g ∧ N = M)) :
    Calls Tryd.prog 67 #[.agg #[.int .i64 N, .slice A la ca], .agg #[.int .i64 M, .slice B lb cb]] w fun e w' => e = .returned (.bool false) ∧ Below w.heap.size w w' := by
  have HA := Lib.hid ha; clear ha
  have HB := Lib.hid hb; clear hb
  have HN := Lib.hid h; clear h
  have hT := two_new w N M A B la ca lb cb
  go_enter Tryd.func67, Tryd.ntmps67
  go_wp2_with fail
  refine (cmp_no _ _ _ _ _ _ _ _ _ _ _ (HA.out.below hT.b) (HB.out.below hT.b) HN.out).mono ?_; rintro e w2 ⟨rfl, b2⟩
  go_wp2_with fail
  go_ret
  exact ⟨rfl, (hT.next b2).b⟩
theorem subset_any (N : Nat) (A B : Option Addr) (m ca cb : Nat) (f g : Nat → Nat) (J : Nat) (v : Bool) (w : World) (ha : Wds w A m f) (hb : Wds w B m g) (va : Vld N m f) (vb : Vld N m g) (hJ : J ≤ m)
    (hz : ∀ k, k < J → andNot (f k) (g k) = 0) (hv : (v = true ∧ J = m) ∨ (v = false ∧ J < m ∧ andNot (f J) (g J) ≠ 0)) :
    Calls Tryd.prog 67 #[.agg #[.int .i64 N, .slice A m ca], .agg #[.int .i64 N, .slice B m cb]] w fun e w' => e = .returned (.bool v) ∧ Below w.heap.size w w' := by
  have h1 := va.2.1
  have h2 := va.2.2.1
  simp only [Int.toNat_natCast] at h2
  have hm9 : m ≤ 9 := by omega
  have H2 := Lib.hid h2; clear h2
  have HA := Lib.hid ha; clear ha
  have HB := Lib.hid hb; clear hb
  have VA := Lib.hid va; clear va
  have VB := Lib.hid vb; clear vb
  have HZ := Lib.hid hz; clear hz
  have HV := Lib.hid hv; clear hv
  have hT0 := two_new w N N A B m ca m cb
  go_enter Tryd.func67, Tryd.ntmps67
  go_wp2_with fail
  refine (cmp_yes _ _ _ _ _ _ _ _ _ _ (HA.out.below hT0.b) (HB.out.below hT0.b) VA.out VB.out).mono ?_; rintro e w0 ⟨rfl, b0⟩
  have hT1 := hT0.next b0
  have cc := hT1.s.c1
  clear hT0 b0
  go_wp2_with fail
  clear cc
  go_loopw [5, 13] (fun x i wr => ∃ K : Nat, K ≤ J ∧ i = .int .i64 K ∧ Two w wr N N A B m ca m cb) (fun _ i _ => J - (intOf i).toNat)
  case atStart => exact ⟨0, by omega, rfl, hT1⟩
  case round =>
    clear hT1
    obtain ⟨K, hK, rfl, hT⟩ := hrel
    have c1 := hT.s.c1
    have d1 := hT.t.c1
    have HA2 := HA.out.below hT.b
    have HB2 := HB.out.below hT.b
    by_cases hlt : K < m
    · obtain ⟨b1, o1, rfl, hb1, hc1⟩ := HA2.2 (by omega)
      obtain ⟨b2, o2, rfl, hb2, hc2⟩ := HB2.2 (by omega)
      have x1 := hc1 K hlt
      have x2 := hc2 K hlt
      have hn := u64_andNot_nat (f K) (g K) (HA2.1 K hlt) (HB2.1 K hlt)
      clear hc1 hc2 HA2 HB2
      have hi0 : (0 : Int) ≤ (K : Int) := by omega
      have hi1 : (K : Int) < (m : Int) := by omega
      by_cases hlt2 : K < J
      · have he : bits .andNot .u64 (f K : Int) (g K : Int) = 0 := by rw [hn]; have := HZ.out K hlt2; unfold andNot at this; rw [this]; rfl
        clear hn
        go_wp2_with fail
        go_quiet (fail)
        go_wp2_with fail
        go_roundw
        case rel => exact ⟨K + 1, by omega, by go_num, hT.drewN _⟩
        case measure => simp [intOf]; omega
      · obtain rfl : K = J := by omega
        rcases HV.out with ⟨_, h2⟩ | ⟨rfl, _, hne⟩
        · omega
        · have he : (bits .andNot .u64 (f K : Int) (g K : Int) == 0) = false := by
            rw [hn]; unfold andNot at hne; exact beq_false_of_ne (by omega)
          have he2 : (bits .andNot .u64 (f K : Int) (g K : Int) != 0) = true := by simp only [bne, he]; rfl
          have HN := Lib.hid hne; clear hne hn
          go_wp2_with fail
          go_quiet (fail)
          go_wp2_with fail
          go_ret
          exact ⟨rfl, (hT.drewN _).b⟩
    · rcases HV.out with ⟨rfl, h2⟩ | ⟨_, h2, _⟩
      · have HJ := Lib.hid h2
        clear HA2 HB2 h2
        go_wp2_with fail
        go_ret
        exact ⟨rfl, hT.b⟩
      · omega
end Go.Proofs.YtngpfondnampjaaDoor
