/- Merged: PIsS, LCs. -/
import Derived.Test.YtakjdihhbndcnaaDoorPDwn
import Derived.Test.YtakjdihhbndcnaaDoorRfG
import Derived.Test.YtakjdihhbndcnaaDoorMGa
import Derived.Test.YtakjdihhbndcnaaDoorLBk
import Derived.Test.YtakjdihhbndcnaaDoorMGc
import Derived.Test.YtakjdihhbndcnaaDoorMGb
import Derived.Test.YtakjdihhbndcnaaDoorMGd
import Derived.Test.YtakjdihhbndcnaaDoorPRfV
import Derived.Deep.RegionHeld3
/- Whether a set is one of elements of an order, in the program and in the reference; Down, Up and Restrict of what is none. -/
namespace Go.Proofs.YtakjdihhbndcnaaDoor
open Go.RowKit Go.Sort
def SetP (n : Nat) (N : Int) (l : Nat) (s : Nat → Nat) : Prop := N = (n : Int) ∧ Vld N l s
set_option maxHeartbeats 2000000 in
theorem isset_any (A S : Option Addr) (n c l cs : Nat) (N : Int) (s : Nat → Nat) (v : Bool) (w : World) (hS : Wds w S l s) (hv : v = true ↔ SetP n N l s) :
    Calls Tryd.prog 67 #[.agg #[.slice A n c], .agg #[.int .i64 N, .slice S l cs]] w fun e w' => e = .returned (.bool v) ∧ Below w.heap.size w w' := by
  have r0 := (relAt_new w A n c).alloc (.cells #[.int .i64 N, .slice S l cs] 37)
  have q0 := setAt_new (w.alloc (.cells #[.slice A n c] 24)) N S l cs
  have hz : (w.alloc (.cells #[.slice A n c] 24)).heap.size = w.heap.size + 1 := by simp
  rw [hz] at q0
  have b0 : Below w.heap.size w ((w.alloc (.cells #[.slice A n c] 24)).alloc (.cells #[.int .i64 N, .slice S l cs] 37)) := ((Below.refl _ _).alloc (Nat.le_refl _) _).alloc (by simp) _
  have HS := Lib.hid (hS.below b0)
  have HVV := Lib.hid hv
  clear hz hS hv
  go_enter Tryd.func67, Tryd.ntmps67
  go_upto_region 1 with fail
  generalize (w.alloc (.cells #[.slice A n c] 24)).alloc (.cells #[.int .i64 N, .slice S l cs] 37) = W at *
  have c0 := q0.c0
  have c1 := q0.c1
  by_cases hV : Vld N l s
  · have HV := Lib.hid (valid_yes N S l cs s W HS.out hV)
    have q2' : Hid (v = true ↔ N = (n : Int)) := Lib.hid (HVV.out.trans ⟨fun h => h.1, fun h => ⟨h, hV⟩⟩)
    clear hV
    go_wp2_with fail
    refine HV.out.mono ?_; rintro e w2 ⟨rfl, b2⟩
    have r2 := r0.below b2
    have q2 := q0.below b2
    clear c0 c1 r0 q0
    have c0 := r2.c0
    have d0 := q2.c0
    have d1 := q2.c1
    cases v with
    | true =>
      obtain rfl : N = (n : Int) := q2'.out.1 rfl
      have hq : ((n : Int) == (n : Int)) = true := by simp
      go_wp2_with fail
      go_ret
      exact ⟨rfl, below_next b0 b2⟩
    | false =>
      have hq : (N == (n : Int)) = false := beq_false_of_ne (fun h => by have := q2'.out.2 h; cases this)
      go_wp2_with fail
      go_ret
      exact ⟨rfl, below_next b0 b2⟩
  · have HV := Lib.hid (valid_no N S l cs s W HS.out hV)
    obtain rfl : v = false := by
      cases hc : v with
      | false => rfl
      | true => exact absurd (HVV.out.1 hc).2 hV
    clear hV
    go_wp2_with fail
    refine HV.out.mono ?_; rintro e w2 ⟨rfl, b2⟩
    go_wp2_with fail
    go_ret
    exact ⟨rfl, below_next b0 b2⟩
set_option maxHeartbeats 2000000 in
theorem rset_any (A S : Option Addr) (n c l cs : Nat) (N : Int) (s : Nat → Nat) (v : Bool) (w : World) (hS : Wds w S l s) (hv : v = true ↔ SetP n N l s) :
    Calls Tryd.prog 36 #[.agg #[.slice A n c], .agg #[.int .i64 N, .slice S l cs]] w fun e w' => e = .returned (.bool v) ∧ Below w.heap.size w w' := by
  have r0 := (relAt_new w A n c).alloc (.cells #[.int .i64 N, .slice S l cs] 37)
  have q0 := setAt_new (w.alloc (.cells #[.slice A n c] 24)) N S l cs
  have hz : (w.alloc (.cells #[.slice A n c] 24)).heap.size = w.heap.size + 1 := by simp
  rw [hz] at q0
  have b0 : Below w.heap.size w ((w.alloc (.cells #[.slice A n c] 24)).alloc (.cells #[.int .i64 N, .slice S l cs] 37)) := ((Below.refl _ _).alloc (Nat.le_refl _) _).alloc (by simp) _
  have HS := Lib.hid (hS.below b0)
  have HVV := Lib.hid hv
  clear hz hS hv
  go_enter Tryd.func36, Tryd.ntmps36
  go_upto_region 1 with fail
  generalize (w.alloc (.cells #[.slice A n c] 24)).alloc (.cells #[.int .i64 N, .slice S l cs] 37) = W at *
  have c0 := q0.c0
  have c1 := q0.c1
  by_cases hV : Vld N l s
  · have HV := Lib.hid (refValid_yes N S l cs s W HS.out hV)
    have q2' : Hid (v = true ↔ N = (n : Int)) := Lib.hid (HVV.out.trans ⟨fun h => h.1, fun h => ⟨h, hV⟩⟩)
    clear hV
    go_wp2_with fail
    refine HV.out.mono ?_; rintro e w2 ⟨rfl, b2⟩
    have r2 := r0.below b2
    have q2 := q0.below b2
    clear c0 c1 r0 q0
    have c0 := r2.c0
    have d0 := q2.c0
    have d1 := q2.c1
    cases v with
    | true =>
      obtain rfl : N = (n : Int) := q2'.out.1 rfl
      have hq : ((n : Int) == (n : Int)) = true := by simp
      go_wp2_with fail
      go_ret
      exact ⟨rfl, below_next b0 b2⟩
    | false =>
      have hq : (N == (n : Int)) = false := beq_false_of_ne (fun h => by have := q2'.out.2 h; cases this)
      go_wp2_with fail
      go_ret
      exact ⟨rfl, below_next b0 b2⟩
  · have HV := Lib.hid (refValid_no N S l cs s W HS.out hV)
    obtain rfl : v = false := by
      cases hc : v with
      | false => rfl
      | true => exact absurd (HVV.out.1 hc).2 hV
    clear hV
    go_wp2_with fail
    refine HV.out.mono ?_; rintro e w2 ⟨rfl, b2⟩
    go_wp2_with fail
    go_ret
    exact ⟨rfl, below_next b0 b2⟩
set_option maxRecDepth 100000 in
set_option maxHeartbeats 2000000 in
theorem down_off (A S : Option Addr) (n c l cs : Nat) (N : Int) (R : Nat → RowD) (s : Nat → Nat) (w : World) (h : Rel w A n R) (hn : n ≤ 1000000) (hT : Tab w) (hS : Wds w S l s) (ho : ¬ (POrd n R ∧ SetP n N l s)) :
    Calls Tryd.prog 33 #[.agg #[.slice A n c], .agg #[.int .i64 N, .slice S l cs]] w fun e w' => e = .returned (.tuple #[.agg #[.int .i64 0, .slice none 0 0], .int .i64 1]) ∧ Below w.heap.size w w' := by
  have HH := Lib.hid h
  have HS := Lib.hid hS
  have r0 := ((relAt_new w A n c).alloc (.cells #[.int .i64 N, .slice S l cs] 37)).alloc (.cells #[.int .i64 0, .slice none 0 0] 37)
  have q0 := (setAt_new (w.alloc (.cells #[.slice A n c] 24)) N S l cs).alloc (.cells #[.int .i64 0, .slice none 0 0] 37)
  have s0 := setAt_new ((w.alloc (.cells #[.slice A n c] 24)).alloc (.cells #[.int .i64 N, .slice S l cs] 37)) 0 none 0 0
  have hz : (w.alloc (.cells #[.slice A n c] 24)).heap.size = w.heap.size + 1 := by simp
  have hz2 : ((w.alloc (.cells #[.slice A n c] 24)).alloc (.cells #[.int .i64 N, .slice S l cs] 37)).heap.size = w.heap.size + 2 := by simp
  rw [hz] at q0
  rw [hz2] at s0
  have b0 : Below w.heap.size w (((w.alloc (.cells #[.slice A n c] 24)).alloc (.cells #[.int .i64 N, .slice S l cs] 37)).alloc (.cells #[.int .i64 0, .slice none 0 0] 37)) := (((Below.refl _ _).alloc (Nat.le_refl _) _).alloc (by simp) _).alloc (by simp; omega) _
  obtain ⟨v, hv⟩ : ∃ v : Bool, v = true ↔ POrd n R := ⟨@decide _ (Classical.propDecidable _), @decide_eq_true_iff _ (Classical.propDecidable _)⟩
  have HO := Lib.hid ho
  have HVV := Lib.hid hv
  clear hz hz2 h hS ho hv
  go_enter Tryd.func33, Tryd.ntmps33
  go_upto_region 1 with fail
  generalize ((w.alloc (.cells #[.slice A n c] 24)).alloc (.cells #[.int .i64 N, .slice S l cs] 37)).alloc (.cells #[.int .i64 0, .slice none 0 0] 37) = W at *
  have c0 := r0.c0
  go_wp2_with fail
  refine (pvalid_any A n c R v W (HH.out.below b0) hn (hT.below b0) HVV.out).mono ?_; rintro e w2 ⟨rfl, b2⟩
  have r2 := r0.below b2
  have q2 := q0.below b2
  have s2 := s0.below b2
  have B2 := below_next b0 b2
  clear r0 q0 s0 c0 b0 b2
  cases v with
  | true =>
    have c0 := r2.c0
    have d0 := q2.c0
    have d1 := q2.c1
    go_wp2_with fail
    refine (isset_any A S n c l cs N s false w2 (HS.out.below B2) ⟨(fun h => by cases h), fun h => absurd ⟨HVV.out.1 (by first | rfl | exact trivial), h⟩ HO.out⟩).mono ?_; rintro e w3 ⟨rfl, b3⟩
    have s4 := s2.below b3
    have B4 := below_next B2 b3
    clear c0 d0 d1 r2 q2 s2 B2 b3
    have k0 := s4.c0
    have k1 := s4.c1
    have f0 := s4.free 0
    have f1 := s4.free 1
    have s5 := setAt_put (N' := 0) (A' := none) (l' := 0) (c' := 0) s4
    have j0 := s5.c0
    have j1 := s5.c1
    have B5 := Lib.hid ((B4.setCell (p := ⟨w.heap.size + 2, 0, none⟩) (by show w.heap.size ≤ w.heap.size + 2; omega) (.int .i64 0)).setCell (p := ⟨w.heap.size + 2, 1, none⟩) (by show w.heap.size ≤ w.heap.size + 2; omega) (.slice none 0 0))
    clear s4 s5 B4
    go_wp2_with fail
    refine bodyPost_ret (v := .tuple #[.agg #[.int .i64 0, .slice none 0 0], .int .i64 1]) (by simp [results, Tryd.results33, go_sem, j0, j1]) rfl ?_
    exact ⟨rfl, B5.out⟩
  | false =>
    have s4 := s2
    have B4 := B2
    clear r2 q2 s2 B2
    have k0 := s4.c0
    have k1 := s4.c1
    have f0 := s4.free 0
    have f1 := s4.free 1
    have s5 := setAt_put (N' := 0) (A' := none) (l' := 0) (c' := 0) s4
    have j0 := s5.c0
    have j1 := s5.c1
    have B5 := Lib.hid ((B4.setCell (p := ⟨w.heap.size + 2, 0, none⟩) (by show w.heap.size ≤ w.heap.size + 2; omega) (.int .i64 0)).setCell (p := ⟨w.heap.size + 2, 1, none⟩) (by show w.heap.size ≤ w.heap.size + 2; omega) (.slice none 0 0))
    clear s4 s5 B4
    go_wp2_with fail
    refine bodyPost_ret (v := .tuple #[.agg #[.int .i64 0, .slice none 0 0], .int .i64 1]) (by simp [results, Tryd.results33, go_sem, j0, j1]) rfl ?_
    exact ⟨rfl, B5.out⟩
set_option maxRecDepth 100000 in
set_option maxHeartbeats 2000000 in
theorem up_off (A S : Option Addr) (n c l cs : Nat) (N : Int) (R : Nat → RowD) (s : Nat → Nat) (w : World) (h : Rel w A n R) (hn : n ≤ 1000000) (hT : Tab w) (hS : Wds w S l s) (ho : ¬ (POrd n R ∧ SetP n N l s)) :
    Calls Tryd.prog 34 #[.agg #[.slice A n c], .agg #[.int .i64 N, .slice S l cs]] w fun e w' => e = .returned (.tuple #[.agg #[.int .i64 0, .slice none 0 0], .int .i64 1]) ∧ Below w.heap.size w w' := by
  have HH := Lib.hid h
  have HS := Lib.hid hS
  have r0 := ((relAt_new w A n c).alloc (.cells #[.int .i64 N, .slice S l cs] 37)).alloc (.cells #[.int .i64 0, .slice none 0 0] 37)
  have q0 := (setAt_new (w.alloc (.cells #[.slice A n c] 24)) N S l cs).alloc (.cells #[.int .i64 0, .slice none 0 0] 37)
  have s0 := setAt_new ((w.alloc (.cells #[.slice A n c] 24)).alloc (.cells #[.int .i64 N, .slice S l cs] 37)) 0 none 0 0
  have hz : (w.alloc (.cells #[.slice A n c] 24)).heap.size = w.heap.size + 1 := by simp
  have hz2 : ((w.alloc (.cells #[.slice A n c] 24)).alloc (.cells #[.int .i64 N, .slice S l cs] 37)).heap.size = w.heap.size + 2 := by simp
  rw [hz] at q0
  rw [hz2] at s0
  have b0 : Below w.heap.size w (((w.alloc (.cells #[.slice A n c] 24)).alloc (.cells #[.int .i64 N, .slice S l cs] 37)).alloc (.cells #[.int .i64 0, .slice none 0 0] 37)) := (((Below.refl _ _).alloc (Nat.le_refl _) _).alloc (by simp) _).alloc (by simp; omega) _
  obtain ⟨v, hv⟩ : ∃ v : Bool, v = true ↔ POrd n R := ⟨@decide _ (Classical.propDecidable _), @decide_eq_true_iff _ (Classical.propDecidable _)⟩
  have HO := Lib.hid ho
  have HVV := Lib.hid hv
  clear hz hz2 h hS ho hv
  go_enter Tryd.func34, Tryd.ntmps34
  go_upto_region 1 with fail
  generalize ((w.alloc (.cells #[.slice A n c] 24)).alloc (.cells #[.int .i64 N, .slice S l cs] 37)).alloc (.cells #[.int .i64 0, .slice none 0 0] 37) = W at *
  have c0 := r0.c0
  go_wp2_with fail
  refine (pvalid_any A n c R v W (HH.out.below b0) hn (hT.below b0) HVV.out).mono ?_; rintro e w2 ⟨rfl, b2⟩
  have r2 := r0.below b2
  have q2 := q0.below b2
  have s2 := s0.below b2
  have B2 := below_next b0 b2
  clear r0 q0 s0 c0 b0 b2
  cases v with
  | true =>
    have c0 := r2.c0
    have d0 := q2.c0
    have d1 := q2.c1
    go_wp2_with fail
    refine (isset_any A S n c l cs N s false w2 (HS.out.below B2) ⟨(fun h => by cases h), fun h => absurd ⟨HVV.out.1 (by first | rfl | exact trivial), h⟩ HO.out⟩).mono ?_; rintro e w3 ⟨rfl, b3⟩
    have s4 := s2.below b3
    have B4 := below_next B2 b3
    clear c0 d0 d1 r2 q2 s2 B2 b3
    have k0 := s4.c0
    have k1 := s4.c1
    have f0 := s4.free 0
    have f1 := s4.free 1
    have s5 := setAt_put (N' := 0) (A' := none) (l' := 0) (c' := 0) s4
    have j0 := s5.c0
    have j1 := s5.c1
    have B5 := Lib.hid ((B4.setCell (p := ⟨w.heap.size + 2, 0, none⟩) (by show w.heap.size ≤ w.heap.size + 2; omega) (.int .i64 0)).setCell (p := ⟨w.heap.size + 2, 1, none⟩) (by show w.heap.size ≤ w.heap.size + 2; omega) (.slice none 0 0))
    clear s4 s5 B4
    go_wp2_with fail
    refine bodyPost_ret (v := .tuple #[.agg #[.int .i64 0, .slice none 0 0], .int .i64 1]) (by simp [results, Tryd.results34, go_sem, j0, j1]) rfl ?_
    exact ⟨rfl, B5.out⟩
  | false =>
    have s4 := s2
    have B4 := B2
    clear r2 q2 s2 B2
    have k0 := s4.c0
    have k1 := s4.c1
    have f0 := s4.free 0
    have f1 := s4.free 1
    have s5 := setAt_put (N' := 0) (A' := none) (l' := 0) (c' := 0) s4
    have j0 := s5.c0
    have j1 := s5.c1
    have B5 := Lib.hid ((B4.setCell (p := ⟨w.heap.size + 2, 0, none⟩) (by show w.heap.size ≤ w.heap.size + 2; omega) (.int .i64 0)).setCell (p := ⟨w.heap.size + 2, 1, none⟩) (by show w.heap.size ≤ w.heap.size + 2; omega) (.slice none 0 0))
    clear s4 s5 B4
    go_wp2_with fail
    refine bodyPost_ret (v := .tuple #[.agg #[.int .i64 0, .slice none 0 0], .int .i64 1]) (by simp [results, Tryd.results34, go_sem, j0, j1]) rfl ?_
    exact ⟨rfl, B5.out⟩
set_option maxRecDepth 100000 in
set_option maxHeartbeats 2000000 in
theorem restrict_off (A S : Option Addr) (n c l cs : Nat) (N : Int) (R : Nat → RowD) (s : Nat → Nat) (w : World) (h : Rel w A n R) (hn : n ≤ 1000000) (hT : Tab w) (hS : Wds w S l s) (ho : ¬ (POrd n R ∧ SetP n N l s)) :
    Calls Tryd.prog 35 #[.agg #[.slice A n c], .agg #[.int .i64 N, .slice S l cs]] w fun e w' => e = .returned (.tuple #[.agg #[.slice none 0 0], .int .i64 1]) ∧ Below w.heap.size w w' := by
  have HH := Lib.hid h
  have HS := Lib.hid hS
  have r0 := ((relAt_new w A n c).alloc (.cells #[.int .i64 N, .slice S l cs] 37)).alloc (.cells #[.slice none 0 0] 24)
  have q0 := (setAt_new (w.alloc (.cells #[.slice A n c] 24)) N S l cs).alloc (.cells #[.slice none 0 0] 24)
  have s0 := relAt_new ((w.alloc (.cells #[.slice A n c] 24)).alloc (.cells #[.int .i64 N, .slice S l cs] 37)) none 0 0
  have hz : (w.alloc (.cells #[.slice A n c] 24)).heap.size = w.heap.size + 1 := by simp
  have hz2 : ((w.alloc (.cells #[.slice A n c] 24)).alloc (.cells #[.int .i64 N, .slice S l cs] 37)).heap.size = w.heap.size + 2 := by simp
  rw [hz] at q0
  rw [hz2] at s0
  have b0 : Below w.heap.size w (((w.alloc (.cells #[.slice A n c] 24)).alloc (.cells #[.int .i64 N, .slice S l cs] 37)).alloc (.cells #[.slice none 0 0] 24)) := (((Below.refl _ _).alloc (Nat.le_refl _) _).alloc (by simp) _).alloc (by simp; omega) _
  obtain ⟨v, hv⟩ : ∃ v : Bool, v = true ↔ POrd n R := ⟨@decide _ (Classical.propDecidable _), @decide_eq_true_iff _ (Classical.propDecidable _)⟩
  have HO := Lib.hid ho
  have HVV := Lib.hid hv
  clear hz hz2 h hS ho hv
  go_enter Tryd.func35, Tryd.ntmps35
  go_upto_region 1 with fail
  generalize ((w.alloc (.cells #[.slice A n c] 24)).alloc (.cells #[.int .i64 N, .slice S l cs] 37)).alloc (.cells #[.slice none 0 0] 24) = W at *
  have c0 := r0.c0
  go_wp2_with fail
  refine (pvalid_any A n c R v W (HH.out.below b0) hn (hT.below b0) HVV.out).mono ?_; rintro e w2 ⟨rfl, b2⟩
  have r2 := r0.below b2
  have q2 := q0.below b2
  have s2 := s0.below b2
  have B2 := below_next b0 b2
  clear r0 q0 s0 c0 b0 b2
  cases v with
  | true =>
    have c0 := r2.c0
    have d0 := q2.c0
    have d1 := q2.c1
    go_wp2_with fail
    refine (isset_any A S n c l cs N s false w2 (HS.out.below B2) ⟨(fun h => by cases h), fun h => absurd ⟨HVV.out.1 (by first | rfl | exact trivial), h⟩ HO.out⟩).mono ?_; rintro e w3 ⟨rfl, b3⟩
    have s4 := s2.below b3
    have B4 := below_next B2 b3
    clear c0 d0 d1 r2 q2 s2 B2 b3
    have k0 := s4.c0
    have f0 := s4.free 0
    have s5 := relAt_put2 (A' := none) (n' := 0) (c' := 0) s4
    have j0 := s5.c0
    have B5 := Lib.hid (B4.setCell (p := ⟨w.heap.size + 2, 0, none⟩) (by show w.heap.size ≤ w.heap.size + 2; omega) (.slice none 0 0))
    clear s4 s5 B4
    go_wp2_with fail
    refine bodyPost_ret (v := .tuple #[.agg #[.slice none 0 0], .int .i64 1]) (by simp [results, Tryd.results35, go_sem, j0]) rfl ?_
    exact ⟨rfl, B5.out⟩
  | false =>
    have s4 := s2
    have B4 := B2
    clear r2 q2 s2 B2
    have k0 := s4.c0
    have f0 := s4.free 0
    have s5 := relAt_put2 (A' := none) (n' := 0) (c' := 0) s4
    have j0 := s5.c0
    have B5 := Lib.hid (B4.setCell (p := ⟨w.heap.size + 2, 0, none⟩) (by show w.heap.size ≤ w.heap.size + 2; omega) (.slice none 0 0))
    clear s4 s5 B4
    go_wp2_with fail
    refine bodyPost_ret (v := .tuple #[.agg #[.slice none 0 0], .int .i64 1]) (by simp [results, Tryd.results35, go_sem, j0]) rfl ?_
    exact ⟨rfl, B5.out⟩
end Go.Proofs.YtakjdihhbndcnaaDoor
/- The law PosetCloses: the walk. -/
namespace Go.Proofs.YtakjdihhbndcnaaDoor
open Go.RowKit Go.Sort
theorem noset_any (w : World) : Calls Tryd.prog 27 #[.agg #[.int .i64 0, .slice none 0 0]] w fun e w' => e = .returned (.bool true) ∧ Below w.heap.size w w' := by
  have b0 := bnew w (.cells #[.int .i64 0, .slice none 0 0] 37)
  go_enter Tryd.func27, Tryd.ntmps27
  go_wp2
  go_ret
  exact ⟨rfl, b0⟩
structure Sb (w wr : World) (A : Option Addr) (n c : Nat) (N : Int) (S : Option Addr) (l cs : Nat) : Prop where
  a : RelAt wr w.heap.size A n c
  s : SetAt wr (w.heap.size + 1) N S l cs
  f : Below w.heap.size w wr
theorem Sb.next {w wr w2 : World} {A : Option Addr} {n c : Nat} {N : Int} {S : Option Addr} {l cs : Nat} (h : Sb w wr A n c N S l cs) (k : Below wr.heap.size wr w2) : Sb w w2 A n c N S l cs := ⟨h.a.below k, h.s.below k, below_next h.f k⟩
theorem sb_new (w : World) (A : Option Addr) (n c : Nat) (N : Int) (S : Option Addr) (l cs : Nat) : Sb w ((w.alloc (.cells #[.slice A n c] 24)).alloc (.cells #[.int .i64 N, .slice S l cs] 37)) A n c N S l cs := by
  have q0 := setAt_new (w.alloc (.cells #[.slice A n c] 24)) N S l cs
  rw [show (w.alloc (.cells #[.slice A n c] 24)).heap.size = w.heap.size + 1 by simp] at q0
  exact ⟨(relAt_new w A n c).alloc _, q0, ((Below.refl _ _).alloc (Nat.le_refl _) _).alloc (by simp) _⟩
set_option maxRecDepth 100000 in
set_option maxHeartbeats 8000000 in
theorem cs_law (A : Option Addr) (n c : Nat) (R : Nat → RowD) (N : Int) (S : Option Addr) (l cs : Nat) (s : Nat → Nat) (w : World) (ha : Rel w A n R) (hs : Wds w S l s) (hT : Tab w) :
    Calls Tryd.prog 6 #[.agg #[.slice A n c], .agg #[.int .i64 N, .slice S l cs]] w fun e w' => e = .returned (.bool true) ∧ Below w.heap.size w w' := by
  have HR := Lib.hid ha
  have HS := Lib.hid hs
  clear ha hs
  have hT0 := sb_new w A n c N S l cs
  go_enter Tryd.func6, Tryd.ntmps6
  go_upto_region 1 with fail
  generalize (w.alloc (.cells #[.slice A n c] 24)).alloc (.cells #[.int .i64 N, .slice S l cs] 37) = W at *
  go_wp2_with fail
  refine (awake_any W (hT.below hT0.f)).mono ?_; rintro e w1 ⟨rfl, b1⟩
  have hT1 := hT0.next b1
  clear hT0 b1
  obtain ⟨v1, hv1⟩ : ∃ v : Bool, v = true ↔ Few n R := ⟨@decide _ (Classical.propDecidable _), @decide_eq_true_iff _ (Classical.propDecidable _)⟩
  have HF1 := Lib.hid (few_any A n c R v1 w1 (HR.out.below hT1.f) hv1)
  have HV1 := Lib.hid hv1
  clear hv1
  have c0 := hT1.a.c0
  go_wp2_with fail
  refine HF1.out.mono ?_; rintro e w2 ⟨rfl, b2⟩
  have hT2 := hT1.next b2
  clear hT1 b2 c0 HF1
  cases v1 with
  | false =>
    go_wp2_with fail
    refine (awake_any w2 (hT.below hT2.f)).mono ?_; rintro e w3 ⟨rfl, b3⟩
    go_wp2_with fail
    go_ret
    exact ⟨rfl, below_next hT2.f b3⟩
  | true =>
    have hn := (HV1.out.1 (by first | rfl | exact trivial)).1
    clear HV1
    by_cases hl20 : 20 < l
    · have d20 : decide (20 < (l : Int)) = true := decide_eq_true (by omega)
      have c1 := hT2.s.c1
      clear hl20
      go_wp2_with fail
      refine (awake_any w2 (hT.below hT2.f)).mono ?_; rintro e w3 ⟨rfl, b3⟩
      go_wp2_with fail
      go_ret
      exact ⟨rfl, below_next hT2.f b3⟩
    · have d20 : decide (20 < (l : Int)) = false := decide_eq_false (by omega)
      by_cases hOK : POrd n R ∧ SetP n N l s
      · obtain ⟨hP, hN, hVs⟩ := hOK
        subst hN
        obtain rfl : l = (n + 63) / 64 := by have := hVs.2.2.1; simpa using this
        have HP := Lib.hid hP
        have HVS := Lib.hid hVs
        obtain ⟨mw, hmw⟩ : ∃ mw, (n + 63) / 64 = mw := ⟨_, rfl⟩
        have HMW := Lib.hid hmw
        obtain ⟨f1, hf1⟩ : ∃ f, setF (tl (dwn n (mat R) s) true n) = f := ⟨_, rfl⟩
        obtain ⟨f2, hf2⟩ : ∃ f, setF (tl (upT n (mat R) s) true n) = f := ⟨_, rfl⟩
        obtain ⟨m, hm⟩ : ∃ m, m = mem s n := ⟨_, rfl⟩
        obtain ⟨T, hTT⟩ : ∃ T, rsT (mat R) m = T := ⟨_, rfl⟩
        obtain ⟨k, hk⟩ : ∃ k, m.length = k := ⟨_, rfl⟩
        have hkn : k ≤ n := by rw [← hk, hm]; exact mem_len_le s n
        have h1 : Hid (∀ u, Below w.heap.size w u → Calls Tryd.prog 33 #[.agg #[.slice A n c], .agg #[.int .i64 n, .slice S mw cs]] u (SetOk u n mw f1)) := Lib.hid fun u hu => by
          have h := down_ok A S n c cs R s u (HR.out.below hu) (hT.below hu) HP.out (HS.out.below hu) HVS.out
          unfold DownOk at h; rw [hmw, hf1] at h; exact h
        have h2 : Hid (∀ u, Below w.heap.size w u → Calls Tryd.prog 34 #[.agg #[.slice A n c], .agg #[.int .i64 n, .slice S mw cs]] u (SetOk u n mw f2)) := Lib.hid fun u hu => by
          have h := up_on A S n c cs R s u (HR.out.below hu) (hT.below hu) HP.out (HS.out.below hu) HVS.out
          rw [hmw, hf2] at h; exact h
        have h3 : Hid (∀ u, Below w.heap.size w u → Calls Tryd.prog 35 #[.agg #[.slice A n c], .agg #[.int .i64 n, .slice S mw cs]] u (RelOk u k T)) := Lib.hid fun u hu => by
          have h := restrict_on A S n c cs R s m u (HR.out.below hu) (hT.below hu) HP.out (HS.out.below hu) HVS.out hm
          rw [hmw, hTT, hk] at h; exact h
        have r1 : Hid (∀ u, Below w.heap.size w u → Calls Tryd.prog 37 #[.agg #[.slice A n c], .agg #[.int .i64 n, .slice S mw cs]] u (SetNew u n mw f1)) := Lib.hid fun u hu => by
          have h := rdown_any A S n c cs R s u (HR.out.below hu) HP.out.1 (HS.out.below hu) (by omega)
          rw [hmw, hf1] at h; exact h
        have r2 : Hid (∀ u, Below w.heap.size w u → Calls Tryd.prog 38 #[.agg #[.slice A n c], .agg #[.int .i64 n, .slice S mw cs]] u (SetNew u n mw f2)) := Lib.hid fun u hu => by
          have h := rup_any A S n c cs R s u (HR.out.below hu) HP.out.1 (HS.out.below hu)
          rw [hmw, hf2] at h; exact h
        have r3 : Hid (∀ u, Below w.heap.size w u → Calls Tryd.prog 39 #[.agg #[.slice A n c], .agg #[.int .i64 n, .slice S mw cs]] u (RelNew u k T)) := Lib.hid fun u hu => by
          have h := rrestrict_any A S n c cs R s m u (HR.out.below hu) HP.out.1 (HS.out.below hu) hm
          rw [hmw, hTT, hk] at h; exact h
        have s1 : Hid (∀ (u : World) (g h : Nat), u.rowIs g 59 mw (fun k => .int .u64 (f1 k : Nat)) → u.rowIs h 59 mw (fun k => .int .u64 (f1 k : Nat)) → Calls Tryd.prog 28 #[.agg #[.int .i64 n, .slice (some ⟨g, 0, none⟩) mw mw], .agg #[.int .i64 n, .slice (some ⟨h, 0, none⟩) mw mw]] u fun e w' => e = .returned (.bool true) ∧ Below u.heap.size u w') := Lib.hid fun u g h hg hh => by
          subst hmw hf1; exact rsame_setF n g h _ _ _ u (by omega) hg hh
        have s2 : Hid (∀ (u : World) (g h : Nat), u.rowIs g 59 mw (fun k => .int .u64 (f2 k : Nat)) → u.rowIs h 59 mw (fun k => .int .u64 (f2 k : Nat)) → Calls Tryd.prog 28 #[.agg #[.int .i64 n, .slice (some ⟨g, 0, none⟩) mw mw], .agg #[.int .i64 n, .slice (some ⟨h, 0, none⟩) mw mw]] u fun e w' => e = .returned (.bool true) ∧ Below u.heap.size u w') := Lib.hid fun u g h hg hh => by
          subst hmw hf2; exact rsame_setF n g h _ _ _ u (by omega) hg hh
        have hST : Hid (∀ u, Below w.heap.size w u → Calls Tryd.prog 36 #[.agg #[.slice A n c], .agg #[.int .i64 n, .slice S mw cs]] u fun e w' => e = .returned (.bool true) ∧ Below u.heap.size u w') := Lib.hid fun u hu => by
          have h := rset_any A S n c ((n + 63) / 64) cs n s true u (HS.out.below hu) ⟨fun _ => ⟨rfl, HVS.out⟩, fun _ => rfl⟩
          rw [hmw] at h; exact h
        rw [hmw] at hT2 hl20 d20 ⊢
        clear hmw hf1 hf2 hm hTT hk hP hVs HMW hl20 HVS HS
        have c0 := hT2.a.c0
        have c1 := hT2.s.c0
        have c2 := hT2.s.c1
        have H1 := Lib.hid (h1.out w2 hT2.f)
        unfold SetOk at H1
        go_wp2_with fail
        clear c0 c1 c2
        refine H1.out.mono ?_; rintro e w3 ⟨g1, rfl, _, hg1, b3⟩
        have bx := bnew w3 (.cells #[.int .i64 (n : Int), .slice (some ⟨g1, 0, none⟩) mw mw] 37)
        have q1 := setAt_new w3 (n : Int) (some ⟨g1, 0, none⟩) mw mw
        have hT4 := (hT2.next b3).next bx
        have HG1 := Lib.hid (row_below hg1 bx)
        clear hg1 b3 bx hT2 H1 h1
        go_upto_region 4 with fail
        generalize w3.heap.size = p1 at *
        generalize w3.alloc (.cells #[.int .i64 (n : Int), .slice (some ⟨g1, 0, none⟩) mw mw] 37) = w4 at *
        have c0 := hT4.a.c0
        have c1 := hT4.s.c0
        have c2 := hT4.s.c1
        have H1 := Lib.hid (h2.out w4 hT4.f)
        unfold SetOk at H1
        go_wp2_with fail
        clear c0 c1 c2
        refine H1.out.mono ?_; rintro e w5 ⟨g2, rfl, _, hg2, b5⟩
        have bx := bnew w5 (.cells #[.int .i64 (n : Int), .slice (some ⟨g2, 0, none⟩) mw mw] 37)
        have q2 := setAt_new w5 (n : Int) (some ⟨g2, 0, none⟩) mw mw
        have hT6 := (hT4.next b5).next bx
        have q16 := (q1.below b5).below bx
        have HG16 := Lib.hid (row_below (row_below HG1.out b5) bx)
        have HG2 := Lib.hid (row_below hg2 bx)
        clear hg2 b5 bx hT4 H1 h2 q1 HG1
        go_upto_region 5 with fail
        generalize w5.heap.size = p2 at *
        generalize w5.alloc (.cells #[.int .i64 (n : Int), .slice (some ⟨g2, 0, none⟩) mw mw] 37) = w6 at *
        have c0 := hT6.a.c0
        have c1 := hT6.s.c0
        have c2 := hT6.s.c1
        have H1 := Lib.hid (h3.out w6 hT6.f)
        unfold RelOk at H1
        go_wp2_with fail
        clear c0 c1 c2
        refine H1.out.mono ?_; rintro e w7 ⟨Aq, cq, Rq, rfl, hRq, _, hVq, hMq, b7⟩
        have bx := bnew w7 (.cells #[.slice Aq k cq] 24)
        have q3 := relAt_new w7 Aq k cq
        have hT8 := (hT6.next b7).next bx
        have q18 := (q16.below b7).below bx
        have q28 := (q2.below b7).below bx
        have HG18 := Lib.hid (row_below (row_below HG16.out b7) bx)
        have HG28 := Lib.hid (row_below (row_below HG2.out b7) bx)
        have HRq := Lib.hid (hRq.below bx)
        have HVq := Lib.hid hVq
        have HMq := Lib.hid hMq
        clear hRq hVq hMq b7 bx hT6 H1 h3 q16 q2 HG16 HG2
        go_upto_region 6 with fail
        generalize w7.heap.size = p3 at *
        generalize w7.alloc (.cells #[.slice Aq k cq] 24) = w8 at *
        have c0 := hT8.a.c0
        have HV := Lib.hid (rpvalid_any A n c R true w8 (HR.out.below hT8.f) (by omega) ⟨fun _ => HP.out, fun _ => rfl⟩)
        go_wp2_with fail
        clear c0
        refine HV.out.mono ?_; rintro e w9 ⟨rfl, b9⟩
        have hT9 := hT8.next b9
        have q19 := q18.below b9
        have q29 := q28.below b9
        have q39 := q3.below b9
        have HG19 := Lib.hid (row_below HG18.out b9)
        have HG29 := Lib.hid (row_below HG28.out b9)
        have HRq9 := Lib.hid (HRq.out.below b9)
        clear b9 hT8 HV q18 q28 q3 HG18 HG28 HRq
        have c0 := hT9.a.c0
        have c1 := hT9.s.c0
        have c2 := hT9.s.c1
        have HST := Lib.hid (hST.out w9 hT9.f)
        go_wp2_with fail
        clear c0 c1 c2
        refine HST.out.mono ?_; rintro e wa ⟨rfl, ba⟩
        have hTa := hT9.next ba
        have HQ := Lib.hid (And.intro hTa.a (And.intro hTa.s (And.intro (q19.below ba) (And.intro (q29.below ba) (q39.below ba)))))
        have HG1a := Lib.hid (row_below HG19.out ba)
        have HG2a := Lib.hid (row_below HG29.out ba)
        have HRqa := Lib.hid (HRq9.out.below ba)
        have HBa := Lib.hid hTa.f
        clear ba hT9 HST hST q19 q29 q39 HG19 HG29 HRq9 hTa HP HR
        go_upto_region 8 with fail
        generalize wa = W at *
        have a1 : Hid (∀ u, Below W.heap.size W u → Calls Tryd.prog 37 #[.agg #[.slice A n c], .agg #[.int .i64 n, .slice S mw cs]] u (SetNew u n mw f1)) := Lib.hid fun u hu => r1.out u (below_next HBa.out hu)
        have a2 : Hid (∀ u, Below W.heap.size W u → Calls Tryd.prog 38 #[.agg #[.slice A n c], .agg #[.int .i64 n, .slice S mw cs]] u (SetNew u n mw f2)) := Lib.hid fun u hu => r2.out u (below_next HBa.out hu)
        have a3 : Hid (∀ u, Below W.heap.size W u → Calls Tryd.prog 39 #[.agg #[.slice A n c], .agg #[.int .i64 n, .slice S mw cs]] u (RelNew u k T)) := Lib.hid fun u hu => r3.out u (below_next HBa.out hu)
        have t1 : Hid (∀ u h, Below W.heap.size W u → u.rowIs h 59 mw (fun k => .int .u64 (f1 k : Nat)) → Calls Tryd.prog 28 #[.agg #[.int .i64 n, .slice (some ⟨g1, 0, none⟩) mw mw], .agg #[.int .i64 n, .slice (some ⟨h, 0, none⟩) mw mw]] u fun e w' => e = .returned (.bool true) ∧ Below u.heap.size u w') := Lib.hid fun u h hu hh => s1.out u g1 h (row_below HG1a.out hu) hh
        have t2 : Hid (∀ u h, Below W.heap.size W u → u.rowIs h 59 mw (fun k => .int .u64 (f2 k : Nat)) → Calls Tryd.prog 28 #[.agg #[.int .i64 n, .slice (some ⟨g2, 0, none⟩) mw mw], .agg #[.int .i64 n, .slice (some ⟨h, 0, none⟩) mw mw]] u fun e w' => e = .returned (.bool true) ∧ Below u.heap.size u w') := Lib.hid fun u h hu hh => s2.out u g2 h (row_below HG2a.out hu) hh
        have t3 : Hid (∀ u A5 c5 R5, Below W.heap.size W u → Rel u A5 k R5 → VRel k R5 → (∀ i, i < k → ∀ j, j < k → mat R5 i j = T i j) → Calls Tryd.prog 19 #[.agg #[.slice Aq k cq], .agg #[.slice A5 k c5]] u fun e w' => e = .returned (.bool true) ∧ Below u.heap.size u w') := Lib.hid fun u A5 c5 R5 hu h5 hv5 hm5 =>
          psame_yes Aq A5 k cq c5 Rq R5 u (HRqa.out.below hu) h5 HVq.out hv5 (fun a ha b hb => (HMq.out a ha b hb).trans (hm5 a ha b hb).symm)
        have hss : Hid (∀ w', Below W.heap.size W w' → Below W.heap.size W w' ∧ w'.cell? ⟨w.heap.size, 0, none⟩ = some (.slice A n c) ∧ w'.cell? ⟨w.heap.size + 1, 0, none⟩ = some (.int .i64 n) ∧ w'.cell? ⟨w.heap.size + 1, 1, none⟩ = some (.slice S mw cs) ∧ w'.cell? ⟨p1, 0, none⟩ = some (.int .i64 n) ∧ w'.cell? ⟨p1, 1, none⟩ = some (.slice (some ⟨g1, 0, none⟩) mw mw) ∧ w'.cell? ⟨p2, 0, none⟩ = some (.int .i64 n) ∧ w'.cell? ⟨p2, 1, none⟩ = some (.slice (some ⟨g2, 0, none⟩) mw mw) ∧ w'.cell? ⟨p3, 0, none⟩ = some (.slice Aq k cq)) :=
          fun w' b => ⟨b, (HQ.out.1.below b).c0, (HQ.out.2.1.below b).c0, (HQ.out.2.1.below b).c1, (HQ.out.2.2.1.below b).c0, (HQ.out.2.2.1.below b).c1, (HQ.out.2.2.2.1.below b).c0, (HQ.out.2.2.2.1.below b).c1, (HQ.out.2.2.2.2.below b).c0⟩
        clear r1 r2 r3 s1 s2 HG1a HG2a HRqa HMq HVq HQ
        unfold SetNew at a1 a2
        unfold RelNew at a3
        go_region_held3 (fun w' => Below W.heap.size W w' ∧ w'.cell? ⟨w.heap.size, 0, none⟩ = some (.slice A n c) ∧ w'.cell? ⟨w.heap.size + 1, 0, none⟩ = some (.int .i64 n) ∧ w'.cell? ⟨w.heap.size + 1, 1, none⟩ = some (.slice S mw cs) ∧ w'.cell? ⟨p1, 0, none⟩ = some (.int .i64 n) ∧ w'.cell? ⟨p1, 1, none⟩ = some (.slice (some ⟨g1, 0, none⟩) mw mw) ∧ w'.cell? ⟨p2, 0, none⟩ = some (.int .i64 n) ∧ w'.cell? ⟨p2, 1, none⟩ = some (.slice (some ⟨g2, 0, none⟩) mw mw) ∧ w'.cell? ⟨p3, 0, none⟩ = some (.slice Aq k cq))
          (first
            | exact hss.out _ (Below.refl _ _).drew
            | exact hss.out _ bc10
            | exact hss.out _ bc9
            | exact hss.out _ bc8
            | exact hss.out _ bc7
            | exact hss.out _ bc6
            | exact hss.out _ bc5)
          (first
            | (go_at_call 37; (with_reducible refine (a1.out _ (And.left (by assumption))).mono ?_); rintro e w5 ⟨g5, rfl, _, hr5, b5⟩; have bc5 := below_next (And.left (by assumption)) b5)
            | (go_at_call 38; (with_reducible refine (a2.out _ (And.left (by assumption))).mono ?_); rintro e w7 ⟨g7, rfl, _, hr7, b7⟩; have bc7 := below_next (And.left (by assumption)) b7)
            | (go_at_call 39; (with_reducible refine (a3.out _ (And.left (by assumption))).mono ?_); rintro e w9 ⟨A9, c9, R9, rfl, hr9, _, hv9, hm9, b9⟩; have bc9 := below_next (And.left (by assumption)) b9)
            | (go_at_call 19; (with_reducible refine (t3.out _ _ _ _ bc9 hr9 hv9 hm9).mono ?_); rintro e w10 ⟨rfl, b10⟩; have bc10 := below_next bc9 b10)
            | (go_at_call 28; (with_reducible refine (t2.out _ _ bc7 hr7).mono ?_); rintro e w8 ⟨rfl, b8⟩; have bc8 := below_next bc7 b8)
            | (go_at_call 28; (with_reducible refine (t1.out _ _ bc5 hr5).mono ?_); rintro e w6 ⟨rfl, b6⟩; have bc6 := below_next bc5 b6))
        all_goals
          have BB := below_next HBa.out bc10
          go_wp2_with fail
          go_ret
          exact ⟨rfl, BB⟩
      · have HO := Lib.hid hOK
        obtain ⟨vp, hvp⟩ : ∃ v : Bool, v = true ↔ POrd n R := ⟨@decide _ (Classical.propDecidable _), @decide_eq_true_iff _ (Classical.propDecidable _)⟩
        have HVP := Lib.hid hvp
        clear hOK hvp hl20
        have c0 := hT2.a.c0
        have c1 := hT2.s.c0
        have c2 := hT2.s.c1
        have H1 := Lib.hid (down_off A S n c l cs N R s w2 (HR.out.below hT2.f) (by omega) (hT.below hT2.f) (HS.out.below hT2.f) HO.out)
        go_wp2_with fail
        clear c0 c1 c2
        refine H1.out.mono ?_; rintro e w3 ⟨rfl, b3⟩
        have bx := bnew w3 (.cells #[.int .i64 0, .slice none 0 0] 37)
        have q1 := setAt_new w3 0 none 0 0
        have hT4 := (hT2.next b3).next bx
        clear b3 bx hT2 H1
        go_upto_region 4 with fail
        generalize w3.heap.size = p1 at *
        generalize w3.alloc (.cells #[.int .i64 0, .slice none 0 0] 37) = w4 at *
        have c0 := hT4.a.c0
        have c1 := hT4.s.c0
        have c2 := hT4.s.c1
        have H1 := Lib.hid (up_off A S n c l cs N R s w4 (HR.out.below hT4.f) (by omega) (hT.below hT4.f) (HS.out.below hT4.f) HO.out)
        go_wp2_with fail
        clear c0 c1 c2
        refine H1.out.mono ?_; rintro e w5 ⟨rfl, b5⟩
        have bx := bnew w5 (.cells #[.int .i64 0, .slice none 0 0] 37)
        have q2 := setAt_new w5 0 none 0 0
        have hT6 := (hT4.next b5).next bx
        have q16 := (q1.below b5).below bx
        clear b5 bx hT4 H1 q1
        go_upto_region 5 with fail
        generalize w5.heap.size = p2 at *
        generalize w5.alloc (.cells #[.int .i64 0, .slice none 0 0] 37) = w6 at *
        have c0 := hT6.a.c0
        have c1 := hT6.s.c0
        have c2 := hT6.s.c1
        have H1 := Lib.hid (restrict_off A S n c l cs N R s w6 (HR.out.below hT6.f) (by omega) (hT.below hT6.f) (HS.out.below hT6.f) HO.out)
        go_wp2_with fail
        clear c0 c1 c2
        refine H1.out.mono ?_; rintro e w7 ⟨rfl, b7⟩
        have bx := bnew w7 (.cells #[.slice none 0 0] 24)
        have q3 := relAt_new w7 none 0 0
        have hT8 := (hT6.next b7).next bx
        have q18 := (q16.below b7).below bx
        have q28 := (q2.below b7).below bx
        clear b7 bx hT6 H1 q16 q2
        go_upto_region 6 with fail
        generalize w7.heap.size = p3 at *
        generalize w7.alloc (.cells #[.slice none 0 0] 24) = w8 at *
        have c0 := hT8.a.c0
        have HV := Lib.hid (rpvalid_any A n c R vp w8 (HR.out.below hT8.f) (by omega) HVP.out)
        go_wp2_with fail
        clear c0
        refine HV.out.mono ?_; rintro e w9 ⟨rfl, b9⟩
        have hT9 := hT8.next b9
        have q19 := q18.below b9
        have q29 := q28.below b9
        have q39 := q3.below b9
        clear b9 hT8 HV q18 q28 q3
        cases vp with
        | false =>
          have c0 := q19.c0
          have c1 := q19.c1
          go_wp2_with fail
          refine (noset_any w9).mono ?_; rintro e wb ⟨rfl, bb⟩
          have hTb := hT9.next bb
          have q2b := q29.below bb
          have q3b := q39.below bb
          clear c0 c1 bb hT9 q19 q29 q39
          have c0 := q2b.c0
          have c1 := q2b.c1
          go_wp2_with fail
          refine (noset_any wb).mono ?_; rintro e wc ⟨rfl, bc⟩
          have hTc := hTb.next bc
          have q3c := q3b.below bc
          clear c0 c1 bc hTb q2b q3b
          have c0 := q3c.c0
          go_wp2_with fail
          refine (pnone_any wc).mono ?_; rintro e wd ⟨rfl, bd⟩
          go_wp2_with fail
          go_ret
          exact ⟨rfl, below_next hTc.f bd⟩
        | true =>
          have hP := HVP.out.1 (by first | rfl | exact trivial)
          have HST := Lib.hid (rset_any A S n c l cs N s false w9 (HS.out.below hT9.f) ⟨(fun h => by cases h), fun h => absurd ⟨hP, h⟩ HO.out⟩)
          have c0 := hT9.a.c0
          have c1 := hT9.s.c0
          have c2 := hT9.s.c1
          clear hP
          go_wp2_with fail
          clear c0 c1 c2
          refine HST.out.mono ?_; rintro e wa ⟨rfl, ba⟩
          have hTa := hT9.next ba
          have q1a := q19.below ba
          have q2a := q29.below ba
          have q3a := q39.below ba
          clear ba hT9 HST q19 q29 q39
          generalize wa = w9 at *
          have hT9 := hTa
          have q19 := q1a
          have q29 := q2a
          have q39 := q3a
          clear hTa q1a q2a q3a
          have c0 := q19.c0
          have c1 := q19.c1
          go_wp2_with fail
          refine (noset_any w9).mono ?_; rintro e wb ⟨rfl, bb⟩
          have hTb := hT9.next bb
          have q2b := q29.below bb
          have q3b := q39.below bb
          clear c0 c1 bb hT9 q19 q29 q39
          have c0 := q2b.c0
          have c1 := q2b.c1
          go_wp2_with fail
          refine (noset_any wb).mono ?_; rintro e wc ⟨rfl, bc⟩
          have hTc := hTb.next bc
          have q3c := q3b.below bc
          clear c0 c1 bc hTb q2b q3b
          have c0 := q3c.c0
          go_wp2_with fail
          refine (pnone_any wc).mono ?_; rintro e wd ⟨rfl, bd⟩
          go_wp2_with fail
          go_ret
          exact ⟨rfl, below_next hTc.f bd⟩
end Go.Proofs.YtakjdihhbndcnaaDoor
