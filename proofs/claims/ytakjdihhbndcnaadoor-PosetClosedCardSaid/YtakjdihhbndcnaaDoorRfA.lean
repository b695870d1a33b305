/- The reference of sets: bit, Valid, Comparable. -/
import Derived.Test.YtakjdihhbndcnaaDoorBitE
namespace Go.Proofs.YtakjdihhbndcnaaDoor
open Go.RowKit
/- the reference's bit -/
theorem bit_any (N : Int) (A : Option Addr) (len cap : Nat) (f : Nat → Nat) (i : Nat) (v : Bool) (w : World) (h : Wds w A len f) (hi : i < 64 * len) (hl : len ≤ 1000) (hv : bt f i = v) :
    Calls Tryd.prog 75 #[.agg #[.int .i64 N, .slice A len cap], .int .i64 i] w fun e w' => e = .returned (.bool v) ∧ Below w.heap.size w w' := by
  obtain ⟨b, off, rfl, hb, hc⟩ := h.2 (by omega)
  have hx := hc (i / 64) (by omega)
  have hx64 := h.1 (i / 64) (by omega)
  have hv2 : (f (i / 64)).testBit (i % 64) = v := hv
  clear hc h hv
  generalize f (i / 64) = x at hx hx64 hv2
  have HV := Lib.hid hv2; clear hv2
  have hi2 : i / 64 < len := by omega
  go_enter Tryd.func75, Tryd.ntmps75
  go_wp2
  go_ret
  refine ⟨?_, (Below.refl _ _).alloc (Nat.le_refl _) _⟩
  rw [← HV.out]
  exact ret_bool (and_one_test x (i % 64) hx64)
theorem refValid_n (N : Int) (A : Option Addr) (len cap : Nat) (w : World) (h : N < 0 ∨ 512 < N) :
    Calls Tryd.prog 53 #[.agg #[.int .i64 N, .slice A len cap]] w fun e w' => e = .returned (.bool false) ∧ Below w.heap.size w w' := by
  rcases h with h | h
  · go_enter Tryd.func53, Tryd.ntmps53
    go_wp2
    go_ret
    exact ⟨rfl, (Below.refl _ _).alloc (Nat.le_refl _) _⟩
  · go_enter Tryd.func53, Tryd.ntmps53
    go_wp2
    go_ret
    exact ⟨rfl, (Below.refl _ _).alloc (Nat.le_refl _) _⟩
theorem refValid_len (N : Nat) (A : Option Addr) (len cap : Nat) (w : World) (h : N ≤ 512) (hl : len ≠ (N + 63) / 64) :
    Calls Tryd.prog 53 #[.agg #[.int .i64 N, .slice A len cap]] w fun e w' => e = .returned (.bool false) ∧ Below w.heap.size w w' := by
  have hne : ((len : Int) == (((N : Int) + 63) / 64)) = false := beq_false_of_ne (by omega)
  have hne2 : ((len : Int) != (((N : Int) + 63) / 64)) = true := by simp only [bne, hne]; rfl
  have HL := Lib.hid hl; clear hl
  go_enter Tryd.func53, Tryd.ntmps53
  go_wp2
  go_ret
  exact ⟨rfl, (Below.refl _ _).alloc (Nat.le_refl _) _⟩
/- the bits from N on: all are 0, or there is a first one that is not -/
theorem refValid_bits (N : Nat) (A : Option Addr) (len cap : Nat) (f : Nat → Nat) (J : Nat) (v : Bool) (w : World) (h : Wds w A len f) (h1 : N ≤ 512) (hl : len = (N + 63) / 64) (hJ : N ≤ J) (hJ2 : J ≤ 64 * len)
    (hz : ∀ i, N ≤ i → i < J → bt f i = false) (hv : (v = true ∧ J = 64 * len) ∨ (v = false ∧ J < 64 * len ∧ bt f J = true)) :
    Calls Tryd.prog 53 #[.agg #[.int .i64 N, .slice A len cap]] w fun e w' => e = .returned (.bool v) ∧ Below w.heap.size w w' := by
  have hlen : len ≤ 9 := by omega
  have heq : ((len : Int) == (((N : Int) + 63) / 64)) = true := by rw [beq_iff_eq]; omega
  have heq2 : ((len : Int) != (((N : Int) + 63) / 64)) = false := by simp only [bne, heq]; rfl
  have hd1 : decide ((N : Int) < 0) = false := decide_eq_false (by omega)
  have hd2 : decide (512 < (N : Int)) = false := decide_eq_false (by omega)
  have HL := Lib.hid hl; clear hl
  have HZ := Lib.hid hz; clear hz
  have HV := Lib.hid hv; clear hv
  have HW := Lib.hid h; clear h
  go_enter Tryd.func53, Tryd.ntmps53
  go_wp2
  go_loopw [3] (fun i wr => ∃ I : Nat, N ≤ I ∧ I ≤ J ∧ i = .int .i64 I ∧ Below (w.heap.size + 1) (w.alloc (.cells #[.int .i64 N, .slice A len cap] 37)) wr) (fun i _ => J - (intOf i).toNat)
  case atStart => exact ⟨N, by omega, hJ, rfl, Below.refl _ _⟩
  case round =>
    clear heq heq2 hd1 hd2
    obtain ⟨I, hI, hIJ, rfl, hB⟩ := hrel
    have hc0 : wr.cell? ⟨w.heap.size, 0, none⟩ = some (.int .i64 N) := box_cell hB 0
    have hc1 : wr.cell? ⟨w.heap.size, 1, none⟩ = some (.slice A len cap) := box_cell hB 1
    by_cases hlt : I < J
    · have hb := HZ.out I hI hlt
      have HW2 : Hid (Wds wr A len f) := HW.out.below (box_below hB)
      go_wp2_with fail
      refine (bit_any N A len cap f I false _ HW2.out (by omega) (by omega) hb).mono ?_; rintro e w2 ⟨rfl, b2⟩
      go_wp2_with fail
      go_roundw
      case rel => exact ⟨I + 1, by omega, by omega, by go_num, box_next hB b2⟩
      case measure => simp [intOf]; omega
    · obtain rfl : I = J := by omega
      have HW2 : Hid (Wds wr A len f) := HW.out.below (box_below hB)
      rcases HV.out with ⟨rfl, hJe⟩ | ⟨rfl, hlt2, hb⟩
      · have hdd : decide ((I : Int) < 64 * (len : Int)) = false := decide_eq_false (by omega)
        have HJ := Lib.hid hJe; clear hJe
        go_wp2_with fail
        go_ret
        exact ⟨rfl, box_below hB⟩
      · go_wp2_with fail
        refine (bit_any N A len cap f I true _ HW2.out (by omega) (by omega) hb).mono ?_; rintro e w2 ⟨rfl, b2⟩
        go_wp2_with fail
        go_ret
        exact ⟨rfl, box_below (box_next hB b2)⟩
theorem first_bit (p : Nat → Bool) (n d : Nat) : (∀ i, n ≤ i → i < n + d → p i = false) ∨ ∃ J, n ≤ J ∧ J < n + d ∧ p J = true ∧ ∀ i, n ≤ i → i < J → p i = false := by
  induction d with
  | zero => left; intro i h1 h2; omega
  | succ d ih =>
    rcases ih with h | ⟨J, h1, h2, h3, h4⟩
    · cases hp : p (n + d)
      · left; intro i h1 h2
        by_cases e : i = n + d
        · rw [e]; exact hp
        · exact h i h1 (by omega)
      · right; exact ⟨n + d, by omega, by omega, hp, h⟩
    · right; exact ⟨J, h1, by omega, h3, h4⟩
theorem refValid_yes (N : Int) (A : Option Addr) (len cap : Nat) (f : Nat → Nat) (w : World) (h : Wds w A len f) (hv : Vld N len f) :
    Calls Tryd.prog 53 #[.agg #[.int .i64 N, .slice A len cap]] w fun e w' => e = .returned (.bool true) ∧ Below w.heap.size w w' := by
  obtain ⟨n, rfl⟩ := Int.eq_ofNat_of_zero_le hv.1
  have h1 : n ≤ 512 := by have := hv.2.1; omega
  have h2 : len = (n + 63) / 64 := hv.2.2.1
  exact refValid_bits n A len cap f (64 * len) true w h h1 h2 (by omega) (by omega) hv.2.2.2 (Or.inl ⟨rfl, rfl⟩)
theorem refValid_no (N : Int) (A : Option Addr) (len cap : Nat) (f : Nat → Nat) (w : World) (h : Wds w A len f) (hv : ¬ Vld N len f) :
    Calls Tryd.prog 53 #[.agg #[.int .i64 N, .slice A len cap]] w fun e w' => e = .returned (.bool false) ∧ Below w.heap.size w w' := by
  by_cases hr : N < 0 ∨ 512 < N
  · exact refValid_n N A len cap w hr
  · obtain ⟨n, rfl⟩ := Int.eq_ofNat_of_zero_le (show 0 ≤ N by omega)
    have h1 : n ≤ 512 := by omega
    by_cases h2 : len = (n + 63) / 64
    · rcases first_bit (bt f) n (64 * len - n) with hz | ⟨J, a1, a2, a3, a4⟩
      · exact absurd ⟨by omega, by omega, by simpa using h2, fun i hi hi2 => hz i (by simpa using hi) (by omega)⟩ hv
      · exact refValid_bits n A len cap f J false w h h1 h2 a1 (by omega) a4 (Or.inr ⟨rfl, by omega, a3⟩)
    · exact refValid_len n A len cap w h1 h2
theorem refCmp_yes (N : Int) (A B : Option Addr) (la ca lb cb : Nat) (f g : Nat → Nat) (w : World) (ha : Wds w A la f) (hb : Wds w B lb g) (va : Vld N la f) (vb : Vld N lb g) :
    Calls Tryd.prog 74 #[.agg #[.int .i64 N, .slice A la ca], .agg #[.int .i64 N, .slice B lb cb]] w fun e w' => e = .returned (.bool true) ∧ Below w.heap.size w w' := by
  have HA := Lib.hid ha; clear ha
  have HB := Lib.hid hb; clear hb
  have VA := Lib.hid va; clear va
  have VB := Lib.hid vb; clear vb
  obtain ⟨s0, t0, b0⟩ := setAt_two w N N A B la ca lb cb
  go_enter Tryd.func74, Tryd.ntmps74
  go_wp2_with fail
  refine (refValid_yes _ _ _ _ _ _ (HA.out.below b0) VA.out).mono ?_; rintro e w2 ⟨rfl, b2⟩
  have c0 := (s0.below b2).c0
  have c1 := (s0.below b2).c1
  have d0 := (t0.below b2).c0
  have d1 := (t0.below b2).c1
  go_wp2_with fail
  refine (refValid_yes _ _ _ _ _ _ (HB.out.below (below_next b0 b2)) VB.out).mono ?_; rintro e w3 ⟨rfl, b3⟩
  clear c0 c1 d0 d1
  have c0 := ((s0.below b2).below b3).c0
  have d0 := ((t0.below b2).below b3).c0
  go_wp2_with fail
  go_ret
  exact ⟨by simp, below_next (below_next b0 b2) b3⟩
end Go.Proofs.YtakjdihhbndcnaaDoor
