/- BitsForms: the law's own text, walked: it returns true for every set, number and list. -/
import Derived.Test.YtijghglppgihmaaDoorLawChg
import Derived.Deep.RegionHeld3
namespace Go.Proofs.YtijghglppgihmaaDoor
open Go.RowKit Go.Sort
/- a boxed set and a boxed number -/
structure Frm (w wr : World) (N : Int) (A : Option Addr) (la ca : Nat) (n : Int) : Prop where
  s : SetAt wr w.heap.size N A la ca
  i : wr.heap[w.heap.size + 1]? = some (.cells #[.int .i64 n] 3 (0, 0))
  b : Below w.heap.size w wr
section
variable {w wr w2 : World} {N n : Int} {A : Option Addr} {la ca : Nat}
theorem Frm.c (h : Frm w wr N A la ca n) : wr.cell? ⟨w.heap.size + 1, 0, none⟩ = some (.int .i64 n) := cell_of_row _ _ 0 _ _ _ h.i
theorem Frm.lt (h : Frm w wr N A la ca n) : w.heap.size + 1 < wr.heap.size := lt_of_block h.i
theorem Frm.next (h : Frm w wr N A la ca n) (k : Below wr.heap.size wr w2) : Frm w w2 N A la ca n := ⟨h.s.below k, (k.block (w.heap.size + 1) h.lt).trans h.i, below_next h.b k⟩
theorem Frm.alloc (h : Frm w wr N A la ca n) (o : Obj) : Frm w (wr.alloc o) N A la ca n := h.next ((Below.refl _ _).alloc (Nat.le_refl _) o)
end
theorem frm_new (w : World) (N : Int) (A : Option Addr) (la ca : Nat) (n : Int) : Frm w ((w.alloc (.cells #[.int .i64 N, .slice A la ca] 24)).alloc (.cells #[.int .i64 n] 3)) N A la ca n := by
  have hu := heap_alloc_new (w.alloc (.cells #[.int .i64 N, .slice A la ca] 24)) (.cells #[.int .i64 n] 3)
  have e : (w.alloc (.cells #[.int .i64 N, .slice A la ca] 24)).heap.size = w.heap.size + 1 := by simp
  rw [e] at hu
  exact ⟨(setAt_new w N A la ca).alloc _, hu, ((Below.refl _ _).alloc (Nat.le_refl _) _).alloc (by simp) _⟩
/- the test of one number -/
theorem bad_no (x n : Int) (p : Nat) (w : World) (hc : w.cell? ⟨p, 0, none⟩ = some (.int .i64 n)) (h1 : 0 ≤ x) (h2 : x < n) :
    Calls Tryd.prog 16 #[.int .i64 x, .pointer (some ⟨p, 0, none⟩)] w fun e w' => e = .returned (.bool false) ∧ w = w' := by
  have q1 : decide (x < 0) = false := decide_eq_false (by omega)
  have q2 : decide (n ≤ x) = false := decide_eq_false (by omega)
  go_enter Tryd.func16, Tryd.ntmps16
  go_wp2_with fail
  go_ret
  exact ⟨rfl, rfl⟩
theorem bad_yes (x n : Int) (p : Nat) (w : World) (hc : w.cell? ⟨p, 0, none⟩ = some (.int .i64 n)) (h : x < 0 ∨ n ≤ x) :
    Calls Tryd.prog 16 #[.int .i64 x, .pointer (some ⟨p, 0, none⟩)] w fun e w' => e = .returned (.bool true) ∧ w = w' := by
  by_cases h1 : x < 0
  · clear h
    go_enter Tryd.func16, Tryd.ntmps16
    go_wp2_with fail
    go_ret
    exact ⟨rfl, rfl⟩
  · have h2 : n ≤ x := by omega
    clear h
    go_enter Tryd.func16, Tryd.ntmps16
    go_wp2_with fail
    go_ret
    exact ⟨rfl, rfl⟩
theorem index_bad (A : Option Addr) (l c : Nat) (z : Nat → Int) (n : Int) (p J : Nat) (r : Int) (w : World) (h : Ints w A l z) (hl : l ≤ 600) (hp : p < w.heap.size) (hc : w.cell? ⟨p, 0, none⟩ = some (.int .i64 n)) (hJ : J ≤ l)
    (hz : ∀ k, k < J → 0 ≤ z k ∧ z k < n) (hr : (r = -1 ∧ J = l) ∨ (r = J ∧ J < l ∧ (z J < 0 ∨ n ≤ z J))) :
    Calls Tryd.prog 54 #[.slice A l c, .func (Fn.func 16) #[] #[.pointer (some ⟨p, 0, none⟩)]] w fun e w' => e = .returned (.int .i64 r) ∧ Below w.heap.size w w' := by
  have HH := Lib.hid h; clear h
  have HZ := Lib.hid hz; clear hz
  have HR := Lib.hid hr; clear hr
  have HC := Lib.hid hc; clear hc
  have HP := Lib.hid hp; clear hp
  go_enter Tryd.func54, Tryd.ntmps54
  go_wp2_with fail
  go_loopw [5, 8] (fun x i wr => ∃ K : Nat, K ≤ J ∧ i = .int .i64 K ∧ Below w.heap.size w wr) (fun _ i _ => J - (intOf i).toNat)
  case atStart => exact ⟨0, by omega, rfl, Below.refl _ _⟩
  case round =>
    obtain ⟨K, hK, rfl, hB⟩ := hrel
    have hcw : wr.cell? ⟨p, 0, none⟩ = some (.int .i64 n) := (hB.cell (p := ⟨p, 0, none⟩) HP.out).trans HC.out
    have HCW := Lib.hid hcw; clear hcw
    by_cases hlt : K < l
    · obtain ⟨b, off, rfl, hbl, hcz⟩ := (HH.out.below hB) (by omega)
      have x0 := hcz K hlt
      clear hcz hbl
      by_cases hKJ : K < J
      · have HX := Lib.hid (HZ.out K hKJ)
        go_wp2_with fail
        refine (bad_no _ n p _ HCW.out HX.out.1 HX.out.2).mono ?_; rintro e w2 ⟨rfl, rfl⟩
        go_wp2_with fail
        go_roundw
        case rel => exact ⟨K + 1, by omega, by go_num, hB⟩
        case measure => simp [intOf]; omega
      · obtain rfl : K = J := by omega
        rcases HR.out with ⟨_, h2⟩ | ⟨rfl, _, h3⟩
        · omega
        · have HX := Lib.hid h3; clear h3
          go_wp2_with fail
          refine (bad_yes _ n p _ HCW.out HX.out).mono ?_; rintro e w2 ⟨rfl, rfl⟩
          go_wp2_with fail
          go_ret
          exact ⟨rfl, hB⟩
    · rcases HR.out with ⟨rfl, h2⟩ | ⟨_, h2, _⟩
      · have HJ := Lib.hid h2; clear h2
        go_wp2_with fail
        go_ret
        exact ⟨rfl, hB⟩
      · omega
theorem contains_bad (A : Option Addr) (l c : Nat) (z : Nat → Int) (n : Int) (p J : Nat) (v : Bool) (w : World) (h : Ints w A l z) (hl : l ≤ 600) (hp : p < w.heap.size) (hc : w.cell? ⟨p, 0, none⟩ = some (.int .i64 n)) (hJ : J ≤ l)
    (hz : ∀ k, k < J → 0 ≤ z k ∧ z k < n) (hr : (v = false ∧ J = l) ∨ (v = true ∧ J < l ∧ (z J < 0 ∨ n ≤ z J))) :
    Calls Tryd.prog 15 #[.slice A l c, .func (Fn.func 16) #[] #[.pointer (some ⟨p, 0, none⟩)]] w fun e w' => e = .returned (.bool v) ∧ Below w.heap.size w w' := by
  have HH := Lib.hid h; clear h
  have HZ := Lib.hid hz; clear hz
  have HC := Lib.hid hc; clear hc
  rcases hr with ⟨rfl, h2⟩ | ⟨rfl, h2⟩
  · have HR := Lib.hid h2; clear h2
    go_enter Tryd.func15, Tryd.ntmps15
    go_wp2_with fail
    refine (index_bad A l c z n p J (-1) _ HH.out hl hp HC.out hJ HZ.out (Or.inl ⟨rfl, HR.out⟩)).mono ?_; rintro e w2 ⟨rfl, b2⟩
    go_wp2_with fail
    go_ret
    exact ⟨rfl, b2⟩
  · have HR := Lib.hid h2; clear h2
    go_enter Tryd.func15, Tryd.ntmps15
    go_wp2_with fail
    refine (index_bad A l c z n p J J _ HH.out hl hp HC.out hJ HZ.out (Or.inr ⟨rfl, HR.out⟩)).mono ?_; rintro e w2 ⟨rfl, b2⟩
    go_wp2_with fail
    go_ret
    exact ⟨rfl, b2⟩
set_option maxRecDepth 100000 in
set_option maxHeartbeats 4000000 in
theorem forms_big (N n : Int) (A B : Option Addr) (la ca lb cb : Nat) (w : World) (hT : Tab w) (hbig : 20 < la) :
    Calls Tryd.prog 3 #[.agg #[.int .i64 N, .slice A la ca], .int .i64 n, .slice B lb cb] w fun e w' => e = .returned (.bool true) ∧ Below w.heap.size w w' := by
  have HJ := Lib.hid hbig; clear hbig
  have hT0 := frm_new w N A la ca n
  go_enter Tryd.func3, Tryd.ntmps3
  go_wp2_with fail
  refine (awake_any _ (hT.below hT0.b)).mono ?_; rintro e w1 ⟨rfl, b1⟩
  have hT1 := hT0.next b1
  clear hT0 b1
  have c0 := hT1.s.c0
  have c1 := hT1.s.c1
  go_wp2_with fail
  clear c0 c1
  refine (few_no w1.heap.size 1 _ _ _ _ 0 _ (sets_one w1 N A la ca) (by decide) (fun k hk => by omega) ⟨by decide, HJ.out⟩).mono ?_; rintro e w2 ⟨rfl, b2⟩
  have hT2 := hT1.next (((Below.refl _ _).alloc (Nat.le_refl _) _).trans (b2.mono (by simp)))
  clear hT1 b2
  go_wp2_with fail
  refine (awake_any _ (hT.below hT2.b)).mono ?_; rintro e w3 ⟨rfl, b3⟩
  go_wp2_with fail
  go_ret
  exact ⟨rfl, (hT2.next b3).b⟩
set_option maxRecDepth 100000 in
set_option maxHeartbeats 4000000 in
theorem forms_long (N n : Int) (A B : Option Addr) (la ca lb cb : Nat) (w : World) (hT : Tab w) (hfew : ∀ k, k < 1 → (fun _ => la) k ≤ 20) (hl : 600 < lb) :
    Calls Tryd.prog 3 #[.agg #[.int .i64 N, .slice A la ca], .int .i64 n, .slice B lb cb] w fun e w' => e = .returned (.bool true) ∧ Below w.heap.size w w' := by
  have HF := Lib.hid hfew; clear hfew
  have hT0 := frm_new w N A la ca n
  go_enter Tryd.func3, Tryd.ntmps3
  go_wp2_with fail
  refine (awake_any _ (hT.below hT0.b)).mono ?_; rintro e w1 ⟨rfl, b1⟩
  have hT1 := hT0.next b1
  clear hT0 b1
  have c0 := hT1.s.c0
  have c1 := hT1.s.c1
  go_wp2_with fail
  clear c0 c1
  refine (few_yes w1.heap.size 1 _ _ _ _ _ (sets_one w1 N A la ca) (by decide) HF.out).mono ?_; rintro e w2 ⟨rfl, b2⟩
  have hT2 := hT1.next (((Below.refl _ _).alloc (Nat.le_refl _) _).trans (b2.mono (by simp)))
  clear hT1 b2
  have hd : decide (600 < (lb : Int)) = true := decide_eq_true (by omega)
  go_wp2_with fail
  refine (awake_any _ (hT.below hT2.b)).mono ?_; rintro e w3 ⟨rfl, b3⟩
  go_wp2_with fail
  go_ret
  exact ⟨rfl, (hT2.next b3).b⟩
set_option maxRecDepth 100000 in
set_option maxHeartbeats 4000000 in
theorem forms_neg_x (N n : Int) (A B : Option Addr) (la ca lb cb : Nat) (f : Nat → Nat) (z : Nat → Int) (w : World) (ha : Wds w A la f) (hz : Ints w B lb z) (hT : Tab w) (hfew : ∀ k, k < 1 → (fun _ => la) k ≤ 20) (hl : lb ≤ 600) (hn : n < 0) (va : ¬ Vld N la f) :
    Calls Tryd.prog 3 #[.agg #[.int .i64 N, .slice A la ca], .int .i64 n, .slice B lb cb] w fun e w' => e = .returned (.bool true) ∧ Below w.heap.size w w' := by
  have HA := Lib.hid ha; clear ha
  have HZ := Lib.hid hz; clear hz
  have VA := Lib.hid va; clear va
  have HF := Lib.hid hfew; clear hfew
  have hT0 := frm_new w N A la ca n
  go_enter Tryd.func3, Tryd.ntmps3
  go_wp2_with fail
  refine (awake_any _ (hT.below hT0.b)).mono ?_; rintro e w1 ⟨rfl, b1⟩
  have hT1 := hT0.next b1
  clear hT0 b1
  have c0 := hT1.s.c0
  have c1 := hT1.s.c1
  go_wp2_with fail
  clear c0 c1
  refine (few_yes w1.heap.size 1 _ _ _ _ _ (sets_one w1 N A la ca) (by decide) HF.out).mono ?_; rintro e w2 ⟨rfl, b2⟩
  have hT2 := hT1.next (((Below.refl _ _).alloc (Nat.le_refl _) _).trans (b2.mono (by simp)))
  clear hT1 b2
  have hd : decide (600 < (lb : Int)) = false := decide_eq_false (by omega)
  have c2 := hT2.c
  go_wp2_with fail
  clear c2
  refine (of_size _ _ _ _ _ (Or.inl hn)).mono ?_; rintro e w3 ⟨rfl, b3⟩
  have hT3 := (hT2.next b3).alloc (.cells #[.int .i64 0, .slice none 0 0] 24)
  have a3 := setAt_new w3 0 none 0 0
  clear hT2 b3
  have c0 := hT3.s.c0
  have c1 := hT3.s.c1
  go_wp2_with fail
  clear c0 c1
  refine (members_no _ _ _ _ _ _ (HA.out.below hT3.b) VA.out).mono ?_; rintro e W ⟨rfl, b4⟩
  have hT4 := hT3.next b4
  have a4 := a3.below b4
  clear hT3 a3 b4
  have c2 := hT4.c
  have a0 := a4.c0
  have a1 := a4.c1
  go_wp2_with fail
  clear c2 a0 a1
  refine (none_zero _).mono ?_; rintro e w6 ⟨rfl, b6⟩
  have hT6 := hT4.next b6
  have c0 := hT6.s.c0
  have c1 := hT6.s.c1
  go_wp2_with fail
  clear c0 c1
  refine (refValid_no _ _ _ _ _ _ (HA.out.below hT6.b) VA.out).mono ?_; rintro e w7 ⟨rfl, b7⟩
  have hT7 := hT6.next b7
  clear hT6 b7
  have c0 := hT7.s.c0
  have c1 := hT7.s.c1
  go_wp2_with fail
  clear c0 c1
  refine (valid_no _ _ _ _ _ _ (HA.out.below hT7.b) VA.out).mono ?_; rintro e w8 ⟨rfl, b8⟩
  go_wp2_with fail
  go_ret
  exact ⟨by simp, (hT7.next b8).b⟩
set_option maxRecDepth 100000 in
set_option maxHeartbeats 4000000 in
theorem forms_neg_v (N n : Int) (A B : Option Addr) (la ca lb cb : Nat) (f : Nat → Nat) (z : Nat → Int) (w : World) (ha : Wds w A la f) (hz : Ints w B lb z) (hT : Tab w) (hfew : ∀ k, k < 1 → (fun _ => la) k ≤ 20) (hl : lb ≤ 600) (hn : n < 0) (va : Vld N la f) :
    Calls Tryd.prog 3 #[.agg #[.int .i64 N, .slice A la ca], .int .i64 n, .slice B lb cb] w fun e w' => e = .returned (.bool true) ∧ Below w.heap.size w w' := by
  obtain ⟨N0, rfl⟩ := Int.eq_ofNat_of_zero_le va.1
  have hm9 : la ≤ 9 ∧ N0 ≤ 64 * la := by have h1 := va.2.1; have h2 := va.2.2.1; simp only [Int.toNat_natCast] at h2; omega
  have hmem := fun (w' : World) (h1 : Wds w' A la f) (h2 : Tab w') => members_any N0 A la ca f w' h1 va h2
  rw [mem_is va] at hmem
  have hlen : (mem f N0).length ≤ 1000000 := by have := mem_len_le f N0; omega
  have HLEN := Lib.hid hlen; clear hlen
  have HMEM := Lib.hid hmem; clear hmem
  have HM9 := Lib.hid hm9; clear hm9
  have HA := Lib.hid ha; clear ha
  have HZ := Lib.hid hz; clear hz
  have VA := Lib.hid va; clear va
  have HF := Lib.hid hfew; clear hfew
  have hT0 := frm_new w N0 A la ca n
  go_enter Tryd.func3, Tryd.ntmps3
  go_wp2_with fail
  refine (awake_any _ (hT.below hT0.b)).mono ?_; rintro e w1 ⟨rfl, b1⟩
  have hT1 := hT0.next b1
  clear hT0 b1
  have c0 := hT1.s.c0
  have c1 := hT1.s.c1
  go_wp2_with fail
  clear c0 c1
  refine (few_yes w1.heap.size 1 _ _ _ _ _ (sets_one w1 N0 A la ca) (by decide) HF.out).mono ?_; rintro e w2 ⟨rfl, b2⟩
  have hT2 := hT1.next (((Below.refl _ _).alloc (Nat.le_refl _) _).trans (b2.mono (by simp)))
  clear hT1 b2
  have hd : decide (600 < (lb : Int)) = false := decide_eq_false (by omega)
  have c2 := hT2.c
  go_wp2_with fail
  clear c2
  refine (of_size _ _ _ _ _ (Or.inl hn)).mono ?_; rintro e w3 ⟨rfl, b3⟩
  have hT3 := (hT2.next b3).alloc (.cells #[.int .i64 0, .slice none 0 0] 24)
  have a3 := setAt_new w3 0 none 0 0
  clear hT2 b3
  have c0 := hT3.s.c0
  have c1 := hT3.s.c1
  go_wp2_with fail
  clear c0 c1
  refine (HMEM.out _ (HA.out.below hT3.b) (hT.below hT3.b)).mono ?_; rintro e W ⟨vm, rfl, hown, b4⟩
  obtain ⟨D, cd, rfl, hi4, hl4⟩ := own_ints hown
  clear hown hl4
  have HI4 := Lib.hid hi4; clear hi4
  have hT4 := hT3.next b4
  have a4 := a3.below b4
  clear hT3 a3 b4
  have c2 := hT4.c
  have a0 := a4.c0
  have a1 := a4.c1
  go_wp2_with fail
  clear c2 a0 a1
  refine (none_zero _).mono ?_; rintro e w6 ⟨rfl, b6⟩
  have hT6 := hT4.next b6
  have c0 := hT6.s.c0
  have c1 := hT6.s.c1
  go_wp2_with fail
  clear c0 c1
  have I6 := Lib.hid (HI4.out.below b6)
  refine (refValid_yes _ _ _ _ _ _ (HA.out.below hT6.b) VA.out).mono ?_; rintro e w7 ⟨rfl, b7⟩
  have hT7 := hT6.next b7
  have I7 := Lib.hid (I6.out.below b7)
  clear hT6 b7
  have c0 := hT7.s.c0
  have c1 := hT7.s.c1
  go_wp2_with fail
  clear c0 c1
  refine (valid_yes _ _ _ _ _ _ (HA.out.below hT7.b) VA.out).mono ?_; rintro e w8 ⟨rfl, b8⟩
  have hT8 := hT7.next b8
  have I8 := Lib.hid (I7.out.below b8)
  clear hT7 b8
  have c0 := hT8.s.c0
  have c1 := hT8.s.c1
  go_wp2_with fail
  clear c0 c1
  refine (refMembers_any _ _ _ _ _ _ (HA.out.below hT8.b) HM9.out.2 HM9.out.1).mono ?_; rintro e w9 ⟨vr, rfl, hown9, b9⟩
  obtain ⟨E, ce, rfl, hi9, hl9⟩ := own_ints hown9
  clear hown9 hl9
  have HI9 := Lib.hid hi9; clear hi9
  have hT9 := hT8.next b9
  have I9 := Lib.hid (I8.out.below b9)
  clear hT8 b9
  go_wp2_with fail
  refine (equal_same _ _ _ _ _ _ _ I9.out HI9.out HLEN.out).mono ?_; rintro e w10 ⟨rfl, b10⟩
  go_wp2_with fail
  go_ret
  exact ⟨by simp, (hT9.next b10).b⟩
set_option maxRecDepth 100000 in
set_option maxHeartbeats 4000000 in
theorem forms_gt_x (N n : Int) (A B : Option Addr) (la ca lb cb : Nat) (f : Nat → Nat) (z : Nat → Int) (w : World) (ha : Wds w A la f) (hz : Ints w B lb z) (hT : Tab w) (hfew : ∀ k, k < 1 → (fun _ => la) k ≤ 20) (hl : lb ≤ 600) (hn : ¬ n < 0) (hn2 : 512 < n) (va : ¬ Vld N la f) :
    Calls Tryd.prog 3 #[.agg #[.int .i64 N, .slice A la ca], .int .i64 n, .slice B lb cb] w fun e w' => e = .returned (.bool true) ∧ Below w.heap.size w w' := by
  have HA := Lib.hid ha; clear ha
  have HZ := Lib.hid hz; clear hz
  have VA := Lib.hid va; clear va
  have HF := Lib.hid hfew; clear hfew
  have hT0 := frm_new w N A la ca n
  go_enter Tryd.func3, Tryd.ntmps3
  go_wp2_with fail
  refine (awake_any _ (hT.below hT0.b)).mono ?_; rintro e w1 ⟨rfl, b1⟩
  have hT1 := hT0.next b1
  clear hT0 b1
  have c0 := hT1.s.c0
  have c1 := hT1.s.c1
  go_wp2_with fail
  clear c0 c1
  refine (few_yes w1.heap.size 1 _ _ _ _ _ (sets_one w1 N A la ca) (by decide) HF.out).mono ?_; rintro e w2 ⟨rfl, b2⟩
  have hT2 := hT1.next (((Below.refl _ _).alloc (Nat.le_refl _) _).trans (b2.mono (by simp)))
  clear hT1 b2
  have hd : decide (600 < (lb : Int)) = false := decide_eq_false (by omega)
  have c2 := hT2.c
  go_wp2_with fail
  clear c2
  refine (of_size _ _ _ _ _ (Or.inr hn2)).mono ?_; rintro e w3 ⟨rfl, b3⟩
  have hT3 := (hT2.next b3).alloc (.cells #[.int .i64 0, .slice none 0 0] 24)
  have a3 := setAt_new w3 0 none 0 0
  clear hT2 b3
  have c0 := hT3.s.c0
  have c1 := hT3.s.c1
  go_wp2_with fail
  clear c0 c1
  refine (members_no _ _ _ _ _ _ (HA.out.below hT3.b) VA.out).mono ?_; rintro e W ⟨rfl, b4⟩
  have hT4 := hT3.next b4
  have a4 := a3.below b4
  clear hT3 a3 b4
  have c2 := hT4.c
  have a0 := a4.c0
  have a1 := a4.c1
  go_wp2_with fail
  clear c2 a0 a1
  refine (none_zero _).mono ?_; rintro e w6 ⟨rfl, b6⟩
  have hT6 := hT4.next b6
  have c0 := hT6.s.c0
  have c1 := hT6.s.c1
  go_wp2_with fail
  clear c0 c1
  refine (refValid_no _ _ _ _ _ _ (HA.out.below hT6.b) VA.out).mono ?_; rintro e w7 ⟨rfl, b7⟩
  have hT7 := hT6.next b7
  clear hT6 b7
  have c0 := hT7.s.c0
  have c1 := hT7.s.c1
  go_wp2_with fail
  clear c0 c1
  refine (valid_no _ _ _ _ _ _ (HA.out.below hT7.b) VA.out).mono ?_; rintro e w8 ⟨rfl, b8⟩
  go_wp2_with fail
  go_ret
  exact ⟨by simp, (hT7.next b8).b⟩
set_option maxRecDepth 100000 in
set_option maxHeartbeats 4000000 in
theorem forms_gt_v (N n : Int) (A B : Option Addr) (la ca lb cb : Nat) (f : Nat → Nat) (z : Nat → Int) (w : World) (ha : Wds w A la f) (hz : Ints w B lb z) (hT : Tab w) (hfew : ∀ k, k < 1 → (fun _ => la) k ≤ 20) (hl : lb ≤ 600) (hn : ¬ n < 0) (hn2 : 512 < n) (va : Vld N la f) :
    Calls Tryd.prog 3 #[.agg #[.int .i64 N, .slice A la ca], .int .i64 n, .slice B lb cb] w fun e w' => e = .returned (.bool true) ∧ Below w.heap.size w w' := by
  obtain ⟨N0, rfl⟩ := Int.eq_ofNat_of_zero_le va.1
  have hm9 : la ≤ 9 ∧ N0 ≤ 64 * la := by have h1 := va.2.1; have h2 := va.2.2.1; simp only [Int.toNat_natCast] at h2; omega
  have hmem := fun (w' : World) (h1 : Wds w' A la f) (h2 : Tab w') => members_any N0 A la ca f w' h1 va h2
  rw [mem_is va] at hmem
  have hlen : (mem f N0).length ≤ 1000000 := by have := mem_len_le f N0; omega
  have HLEN := Lib.hid hlen; clear hlen
  have HMEM := Lib.hid hmem; clear hmem
  have HM9 := Lib.hid hm9; clear hm9
  have HA := Lib.hid ha; clear ha
  have HZ := Lib.hid hz; clear hz
  have VA := Lib.hid va; clear va
  have HF := Lib.hid hfew; clear hfew
  have hT0 := frm_new w N0 A la ca n
  go_enter Tryd.func3, Tryd.ntmps3
  go_wp2_with fail
  refine (awake_any _ (hT.below hT0.b)).mono ?_; rintro e w1 ⟨rfl, b1⟩
  have hT1 := hT0.next b1
  clear hT0 b1
  have c0 := hT1.s.c0
  have c1 := hT1.s.c1
  go_wp2_with fail
  clear c0 c1
  refine (few_yes w1.heap.size 1 _ _ _ _ _ (sets_one w1 N0 A la ca) (by decide) HF.out).mono ?_; rintro e w2 ⟨rfl, b2⟩
  have hT2 := hT1.next (((Below.refl _ _).alloc (Nat.le_refl _) _).trans (b2.mono (by simp)))
  clear hT1 b2
  have hd : decide (600 < (lb : Int)) = false := decide_eq_false (by omega)
  have c2 := hT2.c
  go_wp2_with fail
  clear c2
  refine (of_size _ _ _ _ _ (Or.inr hn2)).mono ?_; rintro e w3 ⟨rfl, b3⟩
  have hT3 := (hT2.next b3).alloc (.cells #[.int .i64 0, .slice none 0 0] 24)
  have a3 := setAt_new w3 0 none 0 0
  clear hT2 b3
  have c0 := hT3.s.c0
  have c1 := hT3.s.c1
  go_wp2_with fail
  clear c0 c1
  refine (HMEM.out _ (HA.out.below hT3.b) (hT.below hT3.b)).mono ?_; rintro e W ⟨vm, rfl, hown, b4⟩
  obtain ⟨D, cd, rfl, hi4, hl4⟩ := own_ints hown
  clear hown hl4
  have HI4 := Lib.hid hi4; clear hi4
  have hT4 := hT3.next b4
  have a4 := a3.below b4
  clear hT3 a3 b4
  have c2 := hT4.c
  have a0 := a4.c0
  have a1 := a4.c1
  go_wp2_with fail
  clear c2 a0 a1
  refine (none_zero _).mono ?_; rintro e w6 ⟨rfl, b6⟩
  have hT6 := hT4.next b6
  have c0 := hT6.s.c0
  have c1 := hT6.s.c1
  go_wp2_with fail
  clear c0 c1
  have I6 := Lib.hid (HI4.out.below b6)
  refine (refValid_yes _ _ _ _ _ _ (HA.out.below hT6.b) VA.out).mono ?_; rintro e w7 ⟨rfl, b7⟩
  have hT7 := hT6.next b7
  have I7 := Lib.hid (I6.out.below b7)
  clear hT6 b7
  have c0 := hT7.s.c0
  have c1 := hT7.s.c1
  go_wp2_with fail
  clear c0 c1
  refine (valid_yes _ _ _ _ _ _ (HA.out.below hT7.b) VA.out).mono ?_; rintro e w8 ⟨rfl, b8⟩
  have hT8 := hT7.next b8
  have I8 := Lib.hid (I7.out.below b8)
  clear hT7 b8
  have c0 := hT8.s.c0
  have c1 := hT8.s.c1
  go_wp2_with fail
  clear c0 c1
  refine (refMembers_any _ _ _ _ _ _ (HA.out.below hT8.b) HM9.out.2 HM9.out.1).mono ?_; rintro e w9 ⟨vr, rfl, hown9, b9⟩
  obtain ⟨E, ce, rfl, hi9, hl9⟩ := own_ints hown9
  clear hown9 hl9
  have HI9 := Lib.hid hi9; clear hi9
  have hT9 := hT8.next b9
  have I9 := Lib.hid (I8.out.below b9)
  clear hT8 b9
  go_wp2_with fail
  refine (equal_same _ _ _ _ _ _ _ I9.out HI9.out HLEN.out).mono ?_; rintro e w10 ⟨rfl, b10⟩
  go_wp2_with fail
  go_ret
  exact ⟨by simp, (hT9.next b10).b⟩
set_option maxRecDepth 100000 in
set_option maxHeartbeats 4000000 in
theorem forms_elem_x (N n : Int) (A B : Option Addr) (la ca lb cb : Nat) (f : Nat → Nat) (z : Nat → Int) (w : World) (ha : Wds w A la f) (hz : Ints w B lb z) (hT : Tab w) (hfew : ∀ k, k < 1 → (fun _ => la) k ≤ 20) (hl : lb ≤ 600) (hn : ¬ n < 0) (hn2 : ¬ 512 < n) (J : Nat) (hJ : J < lb) (hJz : z J < 0 ∨ n ≤ z J) (hz0 : ∀ k, k < J → 0 ≤ z k ∧ z k < n) (va : ¬ Vld N la f) :
    Calls Tryd.prog 3 #[.agg #[.int .i64 N, .slice A la ca], .int .i64 n, .slice B lb cb] w fun e w' => e = .returned (.bool true) ∧ Below w.heap.size w w' := by
  obtain ⟨n0, rfl⟩ := Int.eq_ofNat_of_zero_le (show 0 ≤ n by omega)
  have hn512 : n0 ≤ 512 := by omega
  have HA := Lib.hid ha; clear ha
  have HZ := Lib.hid hz; clear hz
  have VA := Lib.hid va; clear va
  have HF := Lib.hid hfew; clear hfew
  have HZ0 := Lib.hid hz0; clear hz0
  have HJZ := Lib.hid hJz; clear hJz
  have hT0 := frm_new w N A la ca n0
  go_enter Tryd.func3, Tryd.ntmps3
  go_wp2_with fail
  refine (awake_any _ (hT.below hT0.b)).mono ?_; rintro e w1 ⟨rfl, b1⟩
  have hT1 := hT0.next b1
  clear hT0 b1
  have c0 := hT1.s.c0
  have c1 := hT1.s.c1
  go_wp2_with fail
  clear c0 c1
  refine (few_yes w1.heap.size 1 _ _ _ _ _ (sets_one w1 N A la ca) (by decide) HF.out).mono ?_; rintro e w2 ⟨rfl, b2⟩
  have hT2 := hT1.next (((Below.refl _ _).alloc (Nat.le_refl _) _).trans (b2.mono (by simp)))
  clear hT1 b2
  have hd : decide (600 < (lb : Int)) = false := decide_eq_false (by omega)
  have c2 := hT2.c
  go_wp2_with fail
  clear c2
  refine (of_any n0 B lb cb z J false _ hn512 (HZ.out.below hT2.b) (by omega) (Nat.le_of_lt hJ) HZ0.out (Or.inr ⟨rfl, hJ, HJZ.out⟩)).mono ?_; rintro e w3 (⟨h0, _⟩ | ⟨_, rfl, b3⟩)
  · cases h0
  have hT3 := (hT2.next b3).alloc (.cells #[.int .i64 0, .slice none 0 0] 24)
  have a3 := setAt_new w3 0 none 0 0
  clear hT2 b3
  have c0 := hT3.s.c0
  have c1 := hT3.s.c1
  go_wp2_with fail
  clear c0 c1
  refine (members_no _ _ _ _ _ _ (HA.out.below hT3.b) VA.out).mono ?_; rintro e W ⟨rfl, b4⟩
  have hT4 := hT3.next b4
  have a4 := a3.below b4
  clear hT3 a3 b4
  have c2 := hT4.c
  go_wp2_with fail
  clear c2
  refine (contains_bad B lb cb z n0 (w.heap.size + 1) J true _ (HZ.out.below hT4.b) hl hT4.lt hT4.c (Nat.le_of_lt hJ) HZ0.out (Or.inr ⟨rfl, hJ, HJZ.out⟩)).mono ?_; rintro e w5 ⟨rfl, b5⟩
  have hT5 := hT4.next b5
  have a5 := a4.below b5
  have a0 := a5.c0
  have a1 := a5.c1
  clear hT4 a4
  go_wp2_with fail
  clear a0 a1
  refine (none_zero _).mono ?_; rintro e w6 ⟨rfl, b6⟩
  have hT6 := hT5.next b6
  have c0 := hT6.s.c0
  have c1 := hT6.s.c1
  go_wp2_with fail
  clear c0 c1
  refine (refValid_no _ _ _ _ _ _ (HA.out.below hT6.b) VA.out).mono ?_; rintro e w7 ⟨rfl, b7⟩
  have hT7 := hT6.next b7
  clear hT6 b7
  have c0 := hT7.s.c0
  have c1 := hT7.s.c1
  go_wp2_with fail
  clear c0 c1
  refine (valid_no _ _ _ _ _ _ (HA.out.below hT7.b) VA.out).mono ?_; rintro e w8 ⟨rfl, b8⟩
  go_wp2_with fail
  go_ret
  exact ⟨by simp, (hT7.next b8).b⟩
set_option maxRecDepth 100000 in
set_option maxHeartbeats 4000000 in
theorem forms_elem_v (N n : Int) (A B : Option Addr) (la ca lb cb : Nat) (f : Nat → Nat) (z : Nat → Int) (w : World) (ha : Wds w A la f) (hz : Ints w B lb z) (hT : Tab w) (hfew : ∀ k, k < 1 → (fun _ => la) k ≤ 20) (hl : lb ≤ 600) (hn : ¬ n < 0) (hn2 : ¬ 512 < n) (J : Nat) (hJ : J < lb) (hJz : z J < 0 ∨ n ≤ z J) (hz0 : ∀ k, k < J → 0 ≤ z k ∧ z k < n) (va : Vld N la f) :
    Calls Tryd.prog 3 #[.agg #[.int .i64 N, .slice A la ca], .int .i64 n, .slice B lb cb] w fun e w' => e = .returned (.bool true) ∧ Below w.heap.size w w' := by
  obtain ⟨N0, rfl⟩ := Int.eq_ofNat_of_zero_le va.1
  have hm9 : la ≤ 9 ∧ N0 ≤ 64 * la := by have h1 := va.2.1; have h2 := va.2.2.1; simp only [Int.toNat_natCast] at h2; omega
  have hmem := fun (w' : World) (h1 : Wds w' A la f) (h2 : Tab w') => members_any N0 A la ca f w' h1 va h2
  rw [mem_is va] at hmem
  have hlen : (mem f N0).length ≤ 1000000 := by have := mem_len_le f N0; omega
  have HLEN := Lib.hid hlen; clear hlen
  have HMEM := Lib.hid hmem; clear hmem
  have HM9 := Lib.hid hm9; clear hm9
  obtain ⟨n0, rfl⟩ := Int.eq_ofNat_of_zero_le (show 0 ≤ n by omega)
  have hn512 : n0 ≤ 512 := by omega
  have HA := Lib.hid ha; clear ha
  have HZ := Lib.hid hz; clear hz
  have VA := Lib.hid va; clear va
  have HF := Lib.hid hfew; clear hfew
  have HZ0 := Lib.hid hz0; clear hz0
  have HJZ := Lib.hid hJz; clear hJz
  have hT0 := frm_new w N0 A la ca n0
  go_enter Tryd.func3, Tryd.ntmps3
  go_wp2_with fail
  refine (awake_any _ (hT.below hT0.b)).mono ?_; rintro e w1 ⟨rfl, b1⟩
  have hT1 := hT0.next b1
  clear hT0 b1
  have c0 := hT1.s.c0
  have c1 := hT1.s.c1
  go_wp2_with fail
  clear c0 c1
  refine (few_yes w1.heap.size 1 _ _ _ _ _ (sets_one w1 N0 A la ca) (by decide) HF.out).mono ?_; rintro e w2 ⟨rfl, b2⟩
  have hT2 := hT1.next (((Below.refl _ _).alloc (Nat.le_refl _) _).trans (b2.mono (by simp)))
  clear hT1 b2
  have hd : decide (600 < (lb : Int)) = false := decide_eq_false (by omega)
  have c2 := hT2.c
  go_wp2_with fail
  clear c2
  refine (of_any n0 B lb cb z J false _ hn512 (HZ.out.below hT2.b) (by omega) (Nat.le_of_lt hJ) HZ0.out (Or.inr ⟨rfl, hJ, HJZ.out⟩)).mono ?_; rintro e w3 (⟨h0, _⟩ | ⟨_, rfl, b3⟩)
  · cases h0
  have hT3 := (hT2.next b3).alloc (.cells #[.int .i64 0, .slice none 0 0] 24)
  have a3 := setAt_new w3 0 none 0 0
  clear hT2 b3
  have c0 := hT3.s.c0
  have c1 := hT3.s.c1
  go_wp2_with fail
  clear c0 c1
  refine (HMEM.out _ (HA.out.below hT3.b) (hT.below hT3.b)).mono ?_; rintro e W ⟨vm, rfl, hown, b4⟩
  obtain ⟨D, cd, rfl, hi4, hl4⟩ := own_ints hown
  clear hown hl4
  have HI4 := Lib.hid hi4; clear hi4
  have hT4 := hT3.next b4
  have a4 := a3.below b4
  clear hT3 a3 b4
  have c2 := hT4.c
  go_wp2_with fail
  clear c2
  refine (contains_bad B lb cb z n0 (w.heap.size + 1) J true _ (HZ.out.below hT4.b) hl hT4.lt hT4.c (Nat.le_of_lt hJ) HZ0.out (Or.inr ⟨rfl, hJ, HJZ.out⟩)).mono ?_; rintro e w5 ⟨rfl, b5⟩
  have hT5 := hT4.next b5
  have a5 := a4.below b5
  have a0 := a5.c0
  have a1 := a5.c1
  clear hT4 a4
  go_wp2_with fail
  clear a0 a1
  refine (none_zero _).mono ?_; rintro e w6 ⟨rfl, b6⟩
  have hT6 := hT5.next b6
  have c0 := hT6.s.c0
  have c1 := hT6.s.c1
  go_wp2_with fail
  clear c0 c1
  have I6 := Lib.hid (HI4.out.below (below_next b5 b6))
  refine (refValid_yes _ _ _ _ _ _ (HA.out.below hT6.b) VA.out).mono ?_; rintro e w7 ⟨rfl, b7⟩
  have hT7 := hT6.next b7
  have I7 := Lib.hid (I6.out.below b7)
  clear hT6 b7
  have c0 := hT7.s.c0
  have c1 := hT7.s.c1
  go_wp2_with fail
  clear c0 c1
  refine (valid_yes _ _ _ _ _ _ (HA.out.below hT7.b) VA.out).mono ?_; rintro e w8 ⟨rfl, b8⟩
  have hT8 := hT7.next b8
  have I8 := Lib.hid (I7.out.below b8)
  clear hT7 b8
  have c0 := hT8.s.c0
  have c1 := hT8.s.c1
  go_wp2_with fail
  clear c0 c1
  refine (refMembers_any _ _ _ _ _ _ (HA.out.below hT8.b) HM9.out.2 HM9.out.1).mono ?_; rintro e w9 ⟨vr, rfl, hown9, b9⟩
  obtain ⟨E, ce, rfl, hi9, hl9⟩ := own_ints hown9
  clear hown9 hl9
  have HI9 := Lib.hid hi9; clear hi9
  have hT9 := hT8.next b9
  have I9 := Lib.hid (I8.out.below b9)
  clear hT8 b9
  go_wp2_with fail
  refine (equal_same _ _ _ _ _ _ _ I9.out HI9.out HLEN.out).mono ?_; rintro e w10 ⟨rfl, b10⟩
  go_wp2_with fail
  go_ret
  exact ⟨by simp, (hT9.next b10).b⟩
set_option maxRecDepth 100000 in
set_option maxHeartbeats 4000000 in
theorem forms_good_x (N n : Int) (A B : Option Addr) (la ca lb cb : Nat) (f : Nat → Nat) (z : Nat → Int) (w : World) (ha : Wds w A la f) (hz : Ints w B lb z) (hT : Tab w) (hfew : ∀ k, k < 1 → (fun _ => la) k ≤ 20) (hl : lb ≤ 600) (hn : ¬ n < 0) (hn2 : ¬ 512 < n) (hz0 : ∀ k, k < lb → 0 ≤ z k ∧ z k < n) (va : ¬ Vld N la f) :
    Calls Tryd.prog 3 #[.agg #[.int .i64 N, .slice A la ca], .int .i64 n, .slice B lb cb] w fun e w' => e = .returned (.bool true) ∧ Below w.heap.size w w' := by
  obtain ⟨n0, rfl⟩ := Int.eq_ofNat_of_zero_le (show 0 ≤ n by omega)
  have hn512 : n0 ≤ 512 := by omega
  have HA := Lib.hid ha; clear ha
  have HZ := Lib.hid hz; clear hz
  have VA := Lib.hid va; clear va
  have HF := Lib.hid hfew; clear hfew
  have HZ0 := Lib.hid hz0; clear hz0
  have hzn : Ints w B lb (fun k => (((z k).toNat : Nat) : Int)) := HZ.out.congr fun k hk => by have := HZ0.out k hk; omega
  have HZN := Lib.hid hzn; clear hzn
  have hzt : ∀ k, k < lb → (z k).toNat < n0 := fun k hk => by have := HZ0.out k hk; omega
  have HZT := Lib.hid hzt; clear hzt
  have hT0 := frm_new w N A la ca n0
  go_enter Tryd.func3, Tryd.ntmps3
  go_wp2_with fail
  refine (awake_any _ (hT.below hT0.b)).mono ?_; rintro e w1 ⟨rfl, b1⟩
  have hT1 := hT0.next b1
  clear hT0 b1
  have c0 := hT1.s.c0
  have c1 := hT1.s.c1
  go_wp2_with fail
  clear c0 c1
  refine (few_yes w1.heap.size 1 _ _ _ _ _ (sets_one w1 N A la ca) (by decide) HF.out).mono ?_; rintro e w2 ⟨rfl, b2⟩
  have hT2 := hT1.next (((Below.refl _ _).alloc (Nat.le_refl _) _).trans (b2.mono (by simp)))
  clear hT1 b2
  have hd : decide (600 < (lb : Int)) = false := decide_eq_false (by omega)
  have c2 := hT2.c
  go_wp2_with fail
  clear c2
  refine (of_any n0 B lb cb z lb true _ hn512 (HZ.out.below hT2.b) (by omega) (Nat.le_refl _) HZ0.out (Or.inl ⟨rfl, rfl⟩)).mono ?_; rintro e w3 (⟨_, go, rfl, hgo, hro, b3⟩ | ⟨h0, _⟩)
  rotate_left
  · cases h0
  have hT3 := (hT2.next b3).alloc (.cells #[.int .i64 n0, .slice (some ⟨go, 0, none⟩) ((n0 + 63) / 64) ((n0 + 63) / 64)] 24)
  have a3 := setAt_new w3 n0 (some ⟨go, 0, none⟩) ((n0 + 63) / 64) ((n0 + 63) / 64)
  have r3 := hro.alloc (.cells #[.int .i64 n0, .slice (some ⟨go, 0, none⟩) ((n0 + 63) / 64) ((n0 + 63) / 64)] 24)
  have hm10 : (n0 + 63) / 64 ≤ 1000 := by omega
  generalize hmo : (n0 + 63) / 64 = mo at *
  have HMO := Lib.hid hmo; clear hmo
  clear hT2 b3
  have c0 := hT3.s.c0
  have c1 := hT3.s.c1
  go_wp2_with fail
  clear c0 c1
  refine (members_no _ _ _ _ _ _ (HA.out.below hT3.b) VA.out).mono ?_; rintro e W ⟨rfl, b4⟩
  have hT4 := hT3.next b4
  have a4 := a3.below b4
  have r4 := row_below r3 b4
  clear r3
  clear hT3 a3 b4
  have c2 := hT4.c
  go_wp2_with fail
  clear c2
  refine (contains_bad B lb cb z n0 (w.heap.size + 1) lb false _ (HZ.out.below hT4.b) hl hT4.lt hT4.c (Nat.le_refl _) HZ0.out (Or.inl ⟨rfl, rfl⟩)).mono ?_; rintro e W5 ⟨rfl, b5⟩
  have hT5 := hT4.next b5
  have a5 := a4.below b5
  have r5 := row_below r4 b5
  clear hT4 a4 r4
  go_wp2_with fail
  generalize w3.heap.size = pa at *
  have RO := Lib.hid (fun (w : World) (h1 : Ints w B lb (fun k => (((z k).toNat : Nat) : Int))) => refOf_any n0 B lb cb (fun k => (z k).toNat) w hn512 h1 (by omega) HZT.out)
  rw [HMO.out] at RO
  have HS : ∀ w', Below W5.heap.size W5 w' → Below W5.heap.size W5 w' ∧ w'.cell? ⟨pa, 0, none⟩ = some (.int .i64 n0) ∧ w'.cell? ⟨pa, 1, none⟩ = some (.slice (some ⟨go, 0, none⟩) mo mo) ∧ w'.cell? ⟨w.heap.size + 1, 0, none⟩ = some (.int .i64 n0) := fun w' b =>
    ⟨b, (a5.below b).c0, (a5.below b).c1, (hT5.next b).c⟩
  have HSS := Lib.hid HS; clear HS
  go_region_held3 (fun w' => Below W5.heap.size W5 w' ∧ w'.cell? ⟨pa, 0, none⟩ = some (.int .i64 n0) ∧ w'.cell? ⟨pa, 1, none⟩ = some (.slice (some ⟨go, 0, none⟩) mo mo) ∧ w'.cell? ⟨w.heap.size + 1, 0, none⟩ = some (.int .i64 n0))
    (first
      | exact HSS.out _ (Below.refl _ _).drew
      | exact HSS.out _ (below_next (And.left (by assumption)) bx))
    (first
      | (go_at_call 19; refine (RO.out _ (HZN.out.below (below_next hT5.b (And.left (by assumption))))).mono ?_; rintro e wx ⟨gx, rfl, hgx, hrx, bx⟩)
      | (go_at_call 18; with_reducible refine (refSame_any n0 (some ⟨go, 0, none⟩) (some ⟨gx, 0, none⟩) mo mo mo (ow (fun k => (z k).toNat) lb) (ow (fun k => (z k).toNat) lb) mo true _ (row_wds (row_below r5 (And.left (by assumption))) (ow_u64 _ _ _)) (row_wds hrx (ow_u64 _ _ _)) hm10 (Nat.le_refl _) (fun _ _ => rfl) (Or.inl ⟨rfl, rfl⟩)).mono ?_; rintro e wy ⟨rfl, bx⟩))
  all_goals
    have hbb := And.left (by assumption)
    have hT6 := hT5.next hbb
    have c0 := hT6.s.c0
    have c1 := hT6.s.c1
    go_wp2_with fail
    clear c0 c1
    refine (refValid_no _ _ _ _ _ _ (HA.out.below hT6.b) VA.out).mono ?_; rintro e w7 ⟨rfl, b7⟩
    have hT7 := hT6.next b7
    clear hT6 b7
    have c0 := hT7.s.c0
    have c1 := hT7.s.c1
    go_wp2_with fail
    clear c0 c1
    refine (valid_no _ _ _ _ _ _ (HA.out.below hT7.b) VA.out).mono ?_; rintro e w8 ⟨rfl, b8⟩
    go_wp2_with fail
    go_ret
    exact ⟨by simp, (hT7.next b8).b⟩
set_option maxRecDepth 100000 in
set_option maxHeartbeats 4000000 in
theorem forms_good_v (N n : Int) (A B : Option Addr) (la ca lb cb : Nat) (f : Nat → Nat) (z : Nat → Int) (w : World) (ha : Wds w A la f) (hz : Ints w B lb z) (hT : Tab w) (hfew : ∀ k, k < 1 → (fun _ => la) k ≤ 20) (hl : lb ≤ 600) (hn : ¬ n < 0) (hn2 : ¬ 512 < n) (hz0 : ∀ k, k < lb → 0 ≤ z k ∧ z k < n) (va : Vld N la f) :
    Calls Tryd.prog 3 #[.agg #[.int .i64 N, .slice A la ca], .int .i64 n, .slice B lb cb] w fun e w' => e = .returned (.bool true) ∧ Below w.heap.size w w' := by
  obtain ⟨N0, rfl⟩ := Int.eq_ofNat_of_zero_le va.1
  have hm9 : la ≤ 9 ∧ N0 ≤ 64 * la := by have h1 := va.2.1; have h2 := va.2.2.1; simp only [Int.toNat_natCast] at h2; omega
  have hmem := fun (w' : World) (h1 : Wds w' A la f) (h2 : Tab w') => members_any N0 A la ca f w' h1 va h2
  rw [mem_is va] at hmem
  have hlen : (mem f N0).length ≤ 1000000 := by have := mem_len_le f N0; omega
  have HLEN := Lib.hid hlen; clear hlen
  have HMEM := Lib.hid hmem; clear hmem
  have HM9 := Lib.hid hm9; clear hm9
  obtain ⟨n0, rfl⟩ := Int.eq_ofNat_of_zero_le (show 0 ≤ n by omega)
  have hn512 : n0 ≤ 512 := by omega
  have HA := Lib.hid ha; clear ha
  have HZ := Lib.hid hz; clear hz
  have VA := Lib.hid va; clear va
  have HF := Lib.hid hfew; clear hfew
  have HZ0 := Lib.hid hz0; clear hz0
  have hzn : Ints w B lb (fun k => (((z k).toNat : Nat) : Int)) := HZ.out.congr fun k hk => by have := HZ0.out k hk; omega
  have HZN := Lib.hid hzn; clear hzn
  have hzt : ∀ k, k < lb → (z k).toNat < n0 := fun k hk => by have := HZ0.out k hk; omega
  have HZT := Lib.hid hzt; clear hzt
  have hT0 := frm_new w N0 A la ca n0
  go_enter Tryd.func3, Tryd.ntmps3
  go_wp2_with fail
  refine (awake_any _ (hT.below hT0.b)).mono ?_; rintro e w1 ⟨rfl, b1⟩
  have hT1 := hT0.next b1
  clear hT0 b1
  have c0 := hT1.s.c0
  have c1 := hT1.s.c1
  go_wp2_with fail
  clear c0 c1
  refine (few_yes w1.heap.size 1 _ _ _ _ _ (sets_one w1 N0 A la ca) (by decide) HF.out).mono ?_; rintro e w2 ⟨rfl, b2⟩
  have hT2 := hT1.next (((Below.refl _ _).alloc (Nat.le_refl _) _).trans (b2.mono (by simp)))
  clear hT1 b2
  have hd : decide (600 < (lb : Int)) = false := decide_eq_false (by omega)
  have c2 := hT2.c
  go_wp2_with fail
  clear c2
  refine (of_any n0 B lb cb z lb true _ hn512 (HZ.out.below hT2.b) (by omega) (Nat.le_refl _) HZ0.out (Or.inl ⟨rfl, rfl⟩)).mono ?_; rintro e w3 (⟨_, go, rfl, hgo, hro, b3⟩ | ⟨h0, _⟩)
  rotate_left
  · cases h0
  have hT3 := (hT2.next b3).alloc (.cells #[.int .i64 n0, .slice (some ⟨go, 0, none⟩) ((n0 + 63) / 64) ((n0 + 63) / 64)] 24)
  have a3 := setAt_new w3 n0 (some ⟨go, 0, none⟩) ((n0 + 63) / 64) ((n0 + 63) / 64)
  have r3 := hro.alloc (.cells #[.int .i64 n0, .slice (some ⟨go, 0, none⟩) ((n0 + 63) / 64) ((n0 + 63) / 64)] 24)
  have hm10 : (n0 + 63) / 64 ≤ 1000 := by omega
  generalize hmo : (n0 + 63) / 64 = mo at *
  have HMO := Lib.hid hmo; clear hmo
  clear hT2 b3
  have c0 := hT3.s.c0
  have c1 := hT3.s.c1
  go_wp2_with fail
  clear c0 c1
  refine (HMEM.out _ (HA.out.below hT3.b) (hT.below hT3.b)).mono ?_; rintro e W ⟨vm, rfl, hown, b4⟩
  obtain ⟨D, cd, rfl, hi4, hl4⟩ := own_ints hown
  clear hown hl4
  have HI4 := Lib.hid hi4; clear hi4
  have hT4 := hT3.next b4
  have a4 := a3.below b4
  have r4 := row_below r3 b4
  clear r3
  clear hT3 a3 b4
  have c2 := hT4.c
  go_wp2_with fail
  clear c2
  refine (contains_bad B lb cb z n0 (w.heap.size + 1) lb false _ (HZ.out.below hT4.b) hl hT4.lt hT4.c (Nat.le_refl _) HZ0.out (Or.inl ⟨rfl, rfl⟩)).mono ?_; rintro e W5 ⟨rfl, b5⟩
  have hT5 := hT4.next b5
  have a5 := a4.below b5
  have r5 := row_below r4 b5
  clear hT4 a4 r4
  go_wp2_with fail
  generalize w3.heap.size = pa at *
  have RO := Lib.hid (fun (w : World) (h1 : Ints w B lb (fun k => (((z k).toNat : Nat) : Int))) => refOf_any n0 B lb cb (fun k => (z k).toNat) w hn512 h1 (by omega) HZT.out)
  rw [HMO.out] at RO
  have HS : ∀ w', Below W5.heap.size W5 w' → Below W5.heap.size W5 w' ∧ w'.cell? ⟨pa, 0, none⟩ = some (.int .i64 n0) ∧ w'.cell? ⟨pa, 1, none⟩ = some (.slice (some ⟨go, 0, none⟩) mo mo) ∧ w'.cell? ⟨w.heap.size + 1, 0, none⟩ = some (.int .i64 n0) := fun w' b =>
    ⟨b, (a5.below b).c0, (a5.below b).c1, (hT5.next b).c⟩
  have HSS := Lib.hid HS; clear HS
  go_region_held3 (fun w' => Below W5.heap.size W5 w' ∧ w'.cell? ⟨pa, 0, none⟩ = some (.int .i64 n0) ∧ w'.cell? ⟨pa, 1, none⟩ = some (.slice (some ⟨go, 0, none⟩) mo mo) ∧ w'.cell? ⟨w.heap.size + 1, 0, none⟩ = some (.int .i64 n0))
    (first
      | exact HSS.out _ (Below.refl _ _).drew
      | exact HSS.out _ (below_next (And.left (by assumption)) bx))
    (first
      | (go_at_call 19; refine (RO.out _ (HZN.out.below (below_next hT5.b (And.left (by assumption))))).mono ?_; rintro e wx ⟨gx, rfl, hgx, hrx, bx⟩)
      | (go_at_call 18; with_reducible refine (refSame_any n0 (some ⟨go, 0, none⟩) (some ⟨gx, 0, none⟩) mo mo mo (ow (fun k => (z k).toNat) lb) (ow (fun k => (z k).toNat) lb) mo true _ (row_wds (row_below r5 (And.left (by assumption))) (ow_u64 _ _ _)) (row_wds hrx (ow_u64 _ _ _)) hm10 (Nat.le_refl _) (fun _ _ => rfl) (Or.inl ⟨rfl, rfl⟩)).mono ?_; rintro e wy ⟨rfl, bx⟩))
  all_goals
    have hbb := And.left (by assumption)
    have hT6 := hT5.next hbb
    have c0 := hT6.s.c0
    have c1 := hT6.s.c1
    go_wp2_with fail
    clear c0 c1
    have I6 := Lib.hid (HI4.out.below (below_next b5 hbb))
    refine (refValid_yes _ _ _ _ _ _ (HA.out.below hT6.b) VA.out).mono ?_; rintro e w7 ⟨rfl, b7⟩
    have hT7 := hT6.next b7
    have I7 := Lib.hid (I6.out.below b7)
    clear hT6 b7
    have c0 := hT7.s.c0
    have c1 := hT7.s.c1
    go_wp2_with fail
    clear c0 c1
    refine (valid_yes _ _ _ _ _ _ (HA.out.below hT7.b) VA.out).mono ?_; rintro e w8 ⟨rfl, b8⟩
    have hT8 := hT7.next b8
    have I8 := Lib.hid (I7.out.below b8)
    clear hT7 b8
    have c0 := hT8.s.c0
    have c1 := hT8.s.c1
    go_wp2_with fail
    clear c0 c1
    refine (refMembers_any _ _ _ _ _ _ (HA.out.below hT8.b) HM9.out.2 HM9.out.1).mono ?_; rintro e w9 ⟨vr, rfl, hown9, b9⟩
    obtain ⟨E, ce, rfl, hi9, hl9⟩ := own_ints hown9
    clear hown9 hl9
    have HI9 := Lib.hid hi9; clear hi9
    have hT9 := hT8.next b9
    have I9 := Lib.hid (I8.out.below b9)
    clear hT8 b9
    go_wp2_with fail
    refine (equal_same _ _ _ _ _ _ _ I9.out HI9.out HLEN.out).mono ?_; rintro e w10 ⟨rfl, b10⟩
    go_wp2_with fail
    go_ret
    exact ⟨by simp, (hT9.next b10).b⟩
theorem forms_law (N : Int) (A : Option Addr) (la ca : Nat) (f : Nat → Nat) (n : Int) (B : Option Addr) (lb cb : Nat) (z : Nat → Int) (w : World) (ha : Wds w A la f) (hz : Ints w B lb z) (hT : Tab w) :
    Calls Tryd.prog 3 #[.agg #[.int .i64 N, .slice A la ca], .int .i64 n, .slice B lb cb] w fun e w' => e = .returned (.bool true) ∧ Below w.heap.size w w' := by
  by_cases hla : 20 < la
  · exact forms_big N n A B la ca lb cb w hT hla
  have hfew : ∀ k, k < 1 → (fun _ : Nat => la) k ≤ 20 := fun _ _ => Nat.le_of_not_lt hla
  by_cases hlb : 600 < lb
  · exact forms_long N n A B la ca lb cb w hT hfew hlb
  have hl := Nat.le_of_not_lt hlb
  by_cases va : Vld N la f
  · by_cases hn : n < 0
    · exact forms_neg_v N n A B la ca lb cb f z w ha hz hT hfew hl hn va
    by_cases hn2 : 512 < n
    · exact forms_gt_v N n A B la ca lb cb f z w ha hz hT hfew hl hn hn2 va
    rcases first_of (fun k => decide (z k < 0 ∨ n ≤ z k)) lb with h | ⟨J, h1, h2, h3⟩
    · exact forms_good_v N n A B la ca lb cb f z w ha hz hT hfew hl hn hn2 (fun k hk => by have := of_decide_eq_false (h k hk); omega) va
    · exact forms_elem_v N n A B la ca lb cb f z w ha hz hT hfew hl hn hn2 J h1 (of_decide_eq_true h2) (fun k hk => by have := of_decide_eq_false (h3 k hk); omega) va
  · by_cases hn : n < 0
    · exact forms_neg_x N n A B la ca lb cb f z w ha hz hT hfew hl hn va
    by_cases hn2 : 512 < n
    · exact forms_gt_x N n A B la ca lb cb f z w ha hz hT hfew hl hn hn2 va
    rcases first_of (fun k => decide (z k < 0 ∨ n ≤ z k)) lb with h | ⟨J, h1, h2, h3⟩
    · exact forms_good_x N n A B la ca lb cb f z w ha hz hT hfew hl hn hn2 (fun k hk => by have := of_decide_eq_false (h k hk); omega) va
    · exact forms_elem_x N n A B la ca lb cb f z w ha hz hT hfew hl hn hn2 J h1 (of_decide_eq_true h2) (fun k hk => by have := of_decide_eq_false (h3 k hk); omega) va
end Go.Proofs.YtijghglppgihmaaDoor
