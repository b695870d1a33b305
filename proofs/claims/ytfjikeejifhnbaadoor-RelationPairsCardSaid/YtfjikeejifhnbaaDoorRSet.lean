/- The reference's Set, Valid and Same; the laws' own great. -/
import Derived.Test.YtfjikeejifhnbaaDoorRAw
namespace Go.Proofs.YtfjikeejifhnbaaDoor
open Go.RowKit
theorem shr_any (x u : Nat) : ((x : Int) / 2 ^ u == 0) = decide (x / 2 ^ u = 0) := shr_test x u
theorem set_yes (n : Nat) (r : RowD) (w : World) (hr : Wds w r.A r.l r.f) (hn : n ≤ 512) (h : VRow n r) :
    Calls Tryd.prog 47 #[.agg #[.int .i64 r.N, .slice r.A r.l r.c], .int .i64 n] w fun e w' => e = .returned (.bool true) ∧ Below w.heap.size w w' := by
  obtain ⟨N, A, l, c, f⟩ := r
  obtain ⟨h1, h2⟩ := h
  replace h1 : N = n := h1
  subst h1
  have hl : l = (n + 63) / 64 := by have := h2.2.2.1; simpa using this
  have hl1 := (vld_last hr.1 hn hl).1 h2
  have hne : ((n : Int) != (n : Int)) = false := by simp
  have heq : ((l : Int) != (((n : Int) + 63) / 64)) = false := by
    have e : (l : Int) = ((n : Int) + 63) / 64 := by omega
    rw [e]; simp
  have heq2 : ((l : Int) == (((n : Int) + 63) / 64)) = true := by rw [beq_iff_eq]; omega
  have bO : Below w.heap.size w (w.alloc (.cells #[.int .i64 n, .slice A l c] 63)) := (Below.refl _ _).alloc (Nat.le_refl _) _
  by_cases h0 : n % 64 = 0
  · have hz : ((n : Int) % 64 == 0) = true := by rw [beq_iff_eq]; omega
    have HL := Lib.hid hl
    clear hl hr h2 h0 hl1
    go_enter Tryd.func47, Tryd.ntmps47
    go_wp2_with fail
    go_ret
    exact ⟨rfl, bO⟩
  · have hz : ((n : Int) % 64 == 0) = false := by rw [beq_eq_false_iff_ne]; omega
    have hf : f (l - 1) / 2 ^ (n % 64) = 0 := by rcases hl1 with h | h; exact absurd h h0; exact h
    obtain ⟨b, off, hA, hb, hc⟩ := hr.2 (by show 0 < l; omega)
    replace hA : A = some ⟨b, off, none⟩ := hA
    subst hA
    have x := (bO.cell (p := ⟨b, off + (l - 1), none⟩) hb).trans (hc (l - 1) (by show l - 1 < l; omega))
    have hidx : l - 1 = n / 64 := by omega
    rw [hidx] at x hf
    replace x : (w.alloc (.cells #[.int .i64 n, .slice (some ⟨b, off, none⟩) l c] 63)).cell? ⟨b, off + n / 64, none⟩ = some (.int .u64 (f (n / 64) : Nat)) := x
    have hq0 : (0 : Int) ≤ (n : Int) / 64 := by omega
    have hq1 : (n : Int) / 64 < (l : Int) := by omega
    have hq2 : ((n : Int) / 64).toNat = n / 64 := by omega
    have ht := shr_any (f (n / 64)) (n % 64)
    rw [decide_eq_true hf] at ht
    have HT := Lib.hid ht
    clear hl hr h2 h0 hl1 hidx hf hc ht
    generalize f (n / 64) = y at *
    go_enter Tryd.func47, Tryd.ntmps47
    go_wp2_with fail
    go_ret
    exact ⟨ret_bool HT.out, bO⟩
theorem set_no (n : Nat) (r : RowD) (w : World) (hr : Wds w r.A r.l r.f) (hn : n ≤ 512) (h : ¬ VRow n r) :
    Calls Tryd.prog 47 #[.agg #[.int .i64 r.N, .slice r.A r.l r.c], .int .i64 n] w fun e w' => e = .returned (.bool false) ∧ Below w.heap.size w w' := by
  obtain ⟨N, A, l, c, f⟩ := r
  have bO : Below w.heap.size w (w.alloc (.cells #[.int .i64 N, .slice A l c] 63)) := (Below.refl _ _).alloc (Nat.le_refl _) _
  by_cases hN : N = n
  · subst hN
    have hne : ((n : Int) != (n : Int)) = false := by simp
    by_cases hl : l = (n + 63) / 64
    · have heq : ((l : Int) != (((n : Int) + 63) / 64)) = false := by
        have e : (l : Int) = ((n : Int) + 63) / 64 := by omega
        rw [e]; simp
      have heq2 : ((l : Int) == (((n : Int) + 63) / 64)) = true := by rw [beq_iff_eq]; omega
      have hnv : ¬ Vld (n : Int) l f := fun hv => h ⟨rfl, hv⟩
      rw [vld_last hr.1 hn hl] at hnv
      have h0 : ¬ n % 64 = 0 := fun e => hnv (Or.inl e)
      have hf : ¬ f (l - 1) / 2 ^ (n % 64) = 0 := fun e => hnv (Or.inr e)
      have hz : ((n : Int) % 64 == 0) = false := by rw [beq_eq_false_iff_ne]; omega
      obtain ⟨b, off, hA, hb, hc⟩ := hr.2 (by show 0 < l; omega)
      replace hA : A = some ⟨b, off, none⟩ := hA
      subst hA
      have x := (bO.cell (p := ⟨b, off + (l - 1), none⟩) hb).trans (hc (l - 1) (by show l - 1 < l; omega))
      have hidx : l - 1 = n / 64 := by omega
      rw [hidx] at x hf
      replace x : (w.alloc (.cells #[.int .i64 n, .slice (some ⟨b, off, none⟩) l c] 63)).cell? ⟨b, off + n / 64, none⟩ = some (.int .u64 (f (n / 64) : Nat)) := x
      have hq0 : (0 : Int) ≤ (n : Int) / 64 := by omega
      have hq1 : (n : Int) / 64 < (l : Int) := by omega
      have hq2 : ((n : Int) / 64).toNat = n / 64 := by omega
      have ht := shr_any (f (n / 64)) (n % 64)
      rw [decide_eq_false hf] at ht
      have HT := Lib.hid ht
      clear hl hr h h0 hnv hidx hf hc ht
      generalize f (n / 64) = y at *
      go_enter Tryd.func47, Tryd.ntmps47
      go_wp2_with fail
      go_ret
      exact ⟨ret_bool HT.out, bO⟩
    · have heq2 : ((l : Int) == (((n : Int) + 63) / 64)) = false := by rw [beq_eq_false_iff_ne]; omega
      have heq : ((l : Int) != (((n : Int) + 63) / 64)) = true := by simp only [bne, heq2]; rfl
      clear h hr hl
      go_enter Tryd.func47, Tryd.ntmps47
      go_wp2_with fail
      go_ret
      exact ⟨rfl, bO⟩
  · have heq : (N == (n : Int)) = false := beq_false_of_ne hN
    have heq2 : (N != (n : Int)) = true := by simp only [bne, heq]; rfl
    clear h hN hr
    go_enter Tryd.func47, Tryd.ntmps47
    go_wp2_with fail
    go_ret
    exact ⟨rfl, bO⟩
theorem refValid_any (A : Option Addr) (n c : Nat) (R : Nat → RowD) (J : Nat) (v : Bool) (w : World) (h : Rel w A n R) (hn : n ≤ 512) (hJ : J ≤ n) (hz : ∀ k, k < J → VRow n (R k)) (hv : (v = true ∧ J = n) ∨ (v = false ∧ J < n ∧ ¬ VRow n (R J))) :
    Calls Tryd.prog 15 #[.agg #[.slice A n c]] w fun e w' => e = .returned (.bool v) ∧ Below w.heap.size w w' := by
  have HH := Lib.hid h; clear h
  have HZ := Lib.hid hz; clear hz
  have HV := Lib.hid hv; clear hv
  have b0 : Below w.heap.size w (w.alloc (.cells #[.slice A n c] 24)) := (Below.refl _ _).alloc (Nat.le_refl _) _
  have r0 := relAt_new w A n c
  have c0 := r0.c0
  have hd : decide (512 < (n : Int)) = false := decide_eq_false (by omega)
  go_enter Tryd.func15, Tryd.ntmps15
  go_wp2_with fail
  clear c0
  go_loopw [4] (fun i wr => ∃ K : Nat, K ≤ J ∧ i = .int .i64 K ∧ RelAt wr w.heap.size A n c ∧ Below w.heap.size w wr) (fun i _ => J - (intOf i).toNat)
  case atStart => exact ⟨0, by omega, rfl, r0, b0⟩
  case round =>
    clear r0 b0
    obtain ⟨K, hK, rfl, hr, hB⟩ := hrel
    by_cases hlt : K < n
    · obtain ⟨b, off, rfl, hbl, hcz⟩ := (HH.out.below hB) (by omega)
      obtain ⟨x0, x1, x2⟩ := hcz K hlt
      have X2 := Lib.hid x2
      have c0 := hr.c0
      clear hcz x2
      by_cases hKJ : K < J
      · have hs := Lib.hid (HZ.out K hKJ)
        have hwrap : IntKind.i64.wrap ((K : Int) + 1) = (K : Int) + 1 := IntWalk.i64_in _ (by omega)
        go_wp2_with fail
        refine (set_yes n (R K) _ X2.out hn hs.out).mono ?_; rintro e w2 ⟨rfl, b2⟩
        go_wp2_with fail
        go_roundw
        case rel => exact ⟨K + 1, by omega, by go_num, hr.below b2, below_next hB b2⟩
        case measure => simp [intOf]; omega
      · obtain rfl : K = J := by omega
        rcases HV.out with ⟨_, h2⟩ | ⟨rfl, _, h3⟩
        · omega
        · have hs := Lib.hid h3; clear h3
          go_wp2_with fail
          refine (set_no n (R K) _ X2.out hn hs.out).mono ?_; rintro e w2 ⟨rfl, b2⟩
          go_wp2_with fail
          go_ret
          exact ⟨rfl, below_next hB b2⟩
    · rcases HV.out with ⟨rfl, h2⟩ | ⟨_, h2, _⟩
      · have HJ := Lib.hid h2; clear h2
        go_wp2_with fail
        go_ret
        exact ⟨rfl, hB⟩
      · omega
theorem refValid_yes (A : Option Addr) (n c : Nat) (R : Nat → RowD) (w : World) (h : Rel w A n R) (hv : VRel n R) :
    Calls Tryd.prog 15 #[.agg #[.slice A n c]] w fun e w' => e = .returned (.bool true) ∧ Below w.heap.size w w' :=
  refValid_any A n c R n true w h hv.1 (Nat.le_refl _) hv.2 (Or.inl ⟨rfl, rfl⟩)
theorem refValid_no (A : Option Addr) (n c : Nat) (R : Nat → RowD) (w : World) (h : Rel w A n R) (hv : ¬ VRel n R) :
    Calls Tryd.prog 15 #[.agg #[.slice A n c]] w fun e w' => e = .returned (.bool false) ∧ Below w.heap.size w w' := by
  by_cases h512 : n ≤ 512
  · obtain ⟨J, hJ, hJ2, hJ3⟩ := first_bad (p := fun k => VRow n (R k)) (n := n) (fun h => hv ⟨h512, h⟩)
    exact refValid_any A n c R J false w h h512 (by omega) hJ3 (Or.inr ⟨rfl, hJ, hJ2⟩)
  · have b0 : Below w.heap.size w (w.alloc (.cells #[.slice A n c] 24)) := (Below.refl _ _).alloc (Nat.le_refl _) _
    have c0 := (relAt_new w A n c).c0
    have hd : decide (512 < (n : Int)) = true := decide_eq_true (by omega)
    clear hv h
    go_enter Tryd.func15, Tryd.ntmps15
    go_wp2_with fail
    go_ret
    exact ⟨rfl, b0⟩
end Go.Proofs.YtfjikeejifhnbaaDoor
