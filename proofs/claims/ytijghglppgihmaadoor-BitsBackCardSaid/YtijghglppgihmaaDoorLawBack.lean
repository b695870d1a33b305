/- BitsBack: the law's own text, walked: it returns true for every number and list. -/
import Derived.Test.YtijghglppgihmaaDoorBackM
namespace Go.Proofs.YtijghglppgihmaaDoor
open Go.RowKit Go.Sort
set_option maxRecDepth 100000 in
set_option maxHeartbeats 8000000 in
theorem back_long (n : Int) (B : Option Addr) (lb cb : Nat) (w : World) (hT : Tab w) (hl : 600 < lb) :
    Calls Tryd.prog 7 #[.int .i64 n, .slice B lb cb] w fun e w' => e = .returned (.bool true) ∧ Below w.heap.size w w' := by
  go_enter Tryd.func7, Tryd.ntmps7
  go_wp2_with fail
  refine (awake_any _ hT).mono ?_; rintro e w1 ⟨rfl, b1⟩
  have hd : decide (600 < (lb : Int)) = true := decide_eq_true (by omega)
  go_wp2_with fail
  refine (awake_any _ (hT.below b1)).mono ?_; rintro e w2 ⟨rfl, b2⟩
  go_wp2_with fail
  go_ret
  exact ⟨rfl, below_next b1 b2⟩
set_option maxRecDepth 100000 in
set_option maxHeartbeats 8000000 in
theorem back_size (n : Int) (B : Option Addr) (lb cb : Nat) (z : Nat → Int) (w : World) (hz : Ints w B lb z) (hT : Tab w) (hl : lb ≤ 600) (hn : n < 0 ∨ 512 < n) :
    Calls Tryd.prog 7 #[.int .i64 n, .slice B lb cb] w fun e w' => e = .returned (.bool true) ∧ Below w.heap.size w w' := by
  have HN := Lib.hid hn; clear hn
  have HZ := Lib.hid hz; clear hz
  go_enter Tryd.func7, Tryd.ntmps7
  go_wp2_with fail
  refine (awake_any _ hT).mono ?_; rintro e w1 ⟨rfl, b1⟩
  have hd : decide (600 < (lb : Int)) = false := decide_eq_false (by omega)
  go_wp2_with fail
  refine (of_size _ _ _ _ _ HN.out).mono ?_; rintro e w3 ⟨rfl, b3⟩
  have a3 := setAt_new w3 0 none 0 0
  have a0 := a3.c0
  have a1 := a3.c1
  have B3 := below_next (below_next b1 b3) ((Below.refl _ _).alloc (Nat.le_refl _) (.cells #[.int .i64 0, .slice none 0 0] 24))
  go_wp2_with fail
  clear a0 a1
  refine (none_zero _).mono ?_; rintro e w6 ⟨rfl, b6⟩
  go_wp2_with fail
  go_ret
  exact ⟨rfl, below_next B3 b6⟩
set_option maxRecDepth 100000 in
set_option maxHeartbeats 8000000 in
theorem back_elem (n : Int) (B : Option Addr) (lb cb : Nat) (z : Nat → Int) (w : World) (hz : Ints w B lb z) (hT : Tab w) (hl : lb ≤ 600) (hn0 : 0 ≤ n) (hn2 : n ≤ 512) (J : Nat) (hJ : J < lb) (hJz : z J < 0 ∨ n ≤ z J) (hz0 : ∀ k, k < J → 0 ≤ z k ∧ z k < n) :
    Calls Tryd.prog 7 #[.int .i64 n, .slice B lb cb] w fun e w' => e = .returned (.bool true) ∧ Below w.heap.size w w' := by
  obtain ⟨n0, rfl⟩ := Int.eq_ofNat_of_zero_le hn0
  have hn512 : n0 ≤ 512 := by omega
  have HZ0 := Lib.hid hz0; clear hz0
  have HJZ := Lib.hid hJz; clear hJz
  have HZ := Lib.hid hz; clear hz
  go_enter Tryd.func7, Tryd.ntmps7
  go_wp2_with fail
  refine (awake_any _ hT).mono ?_; rintro e w1 ⟨rfl, b1⟩
  have hd : decide (600 < (lb : Int)) = false := decide_eq_false (by omega)
  go_wp2_with fail
  refine (of_any n0 B lb cb z J false _ hn512 (HZ.out.below b1) (by omega) (Nat.le_of_lt hJ) HZ0.out (Or.inr ⟨rfl, hJ, HJZ.out⟩)).mono ?_; rintro e w3 (⟨h0, _⟩ | ⟨_, rfl, b3⟩)
  · cases h0
  have a3 := setAt_new w3 0 none 0 0
  have a0 := a3.c0
  have a1 := a3.c1
  have B3 := below_next (below_next b1 b3) ((Below.refl _ _).alloc (Nat.le_refl _) (.cells #[.int .i64 0, .slice none 0 0] 24))
  go_wp2_with fail
  clear a0 a1
  refine (none_zero _).mono ?_; rintro e w6 ⟨rfl, b6⟩
  go_wp2_with fail
  go_ret
  exact ⟨rfl, below_next B3 b6⟩
set_option maxRecDepth 100000 in
set_option maxHeartbeats 8000000 in
theorem back_good (n0 : Nat) (B : Option Addr) (lb cb : Nat) (z : Nat → Int) (w : World) (hz : Ints w B lb z) (hT : Tab w) (hl : lb ≤ 600) (hn512 : n0 ≤ 512) (hz0 : ∀ k, k < lb → 0 ≤ z k ∧ z k < n0) :
    Calls Tryd.prog 7 #[.int .i64 n0, .slice B lb cb] w fun e w' => e = .returned (.bool true) ∧ Below w.heap.size w w' := by
  have hvld := vld_ow (fun k => (z k).toNat) lb n0 hn512 (fun k hk => by have := hz0 k hk; omega)
  have hsort := back_sorted z lb n0 hz0
  have hbits : ∀ k, k < lb → bt (ow (fun k => (z k).toNat) lb) (z k).toNat = true := fun k hk => (bt_ow _ _ _).2 ⟨k, hk, rfl⟩
  have HOF := Lib.hid (fun (w : World) (h : Ints w B lb z) => of_any n0 B lb cb z lb true w hn512 h (by omega) (Nat.le_refl _) hz0 (Or.inl ⟨rfl, rfl⟩))
  unfold OfEnd at HOF
  have hu : U64 (ow (fun k => (z k).toNat) lb) ((n0 + 63) / 64) := ow_u64 _ _ _
  generalize hF : ow (fun k => (z k).toNat) lb = F at *
  clear hF
  have hmo : (n0 + 63) / 64 ≤ 1000 := by omega
  have hOF2 := fun (D : Option Addr) (cd : Nat) (w : World) (h : Ints w D (mem F n0).length (gets (mem F n0))) => of_any n0 D (mem F n0).length cd (gets (mem F n0)) (mem F n0).length true w hn512 h (by have := mem_len_le F n0; omega) (Nat.le_refl _) (fun k hk => gets_lt k hk) (Or.inl ⟨rfl, rfl⟩)
  have HOF2 := Lib.hid hOF2; clear hOF2
  unfold OfEnd at HOF2
  have hbw := back_words hu hvld
  have hmem := fun (A : Option Addr) (ca : Nat) (w : World) (h : Wds w A ((n0 + 63) / 64) F) (hT : Tab w) => members_any n0 A _ ca F w h hvld hT
  rw [mem_is hvld] at hmem
  have HMEM := Lib.hid hmem; clear hmem
  have hcnt := fun (A : Option Addr) (ca : Nat) (w : World) (h : Wds w A ((n0 + 63) / 64) F) => count_yes n0 A _ ca F w h hvld
  rw [cnt_is hvld] at hcnt
  have HCNT := Lib.hid hcnt; clear hcnt
  generalize (n0 + 63) / 64 = m at *
  have hL : (mem F n0).length ≤ 512 := by have := mem_len_le F n0; omega
  have hcomp : ∀ j, j < (mem F n0).length → (Lib.compact (srt ((List.range lb).map z))).getD j 0 = gets (mem F n0) j := fun j hj => by
    rw [hsort, List.getD_eq_getElem?_getD, List.getElem?_map, List.getElem?_eq_getElem hj]
    unfold gets
    rw [List.getD_eq_getElem?_getD, List.getElem?_eq_getElem hj]; rfl
  have hclen : (Lib.compact (srt ((List.range lb).map z))).length = (mem F n0).length := by rw [hsort, List.length_map]
  have hcc := fun (P : Option Addr) (c base : Nat) (w : World) (h : OwnI w base P lb c (srt ((List.range lb).map z))) => compact_any P lb c base _ w h hl
  rw [hclen] at hcc
  have hcc2 : ∀ (P : Option Addr) (c base : Nat) (w : World), OwnI w base P lb c (srt ((List.range lb).map z)) → Calls Tryd.prog 45 #[.slice P lb c] w fun e w' => e = .returned (.slice P (mem F n0).length c) ∧ Ints w' P (mem F n0).length (gets (mem F n0)) ∧ Below base w w' := fun P c base w h =>
    (hcc P c base w h).mono fun e w' ⟨h1, h2, h3⟩ => ⟨h1, h2.congr hcomp, h3⟩
  have HCC := Lib.hid hcc2
  clear hcc hcc2 hclen hcomp hsort
  have HB := Lib.hid hbits; clear hbits
  have HBW := Lib.hid hbw; clear hbw
  have HV := Lib.hid hvld; clear hvld
  have HU := Lib.hid hu; clear hu
  have HZ0 := Lib.hid hz0; clear hz0
  have HZ := Lib.hid hz; clear hz
  go_enter Tryd.func7, Tryd.ntmps7
  go_wp2_with fail
  refine (awake_any _ hT).mono ?_; rintro e w1 ⟨rfl, b1⟩
  have hd : decide (600 < (lb : Int)) = false := decide_eq_false (by omega)
  go_wp2_with fail
  refine (HOF.out _ (HZ.out.below b1)).mono ?_; rintro e w2 (⟨_, g1, rfl, _, hr1, b2⟩ | ⟨h0, _⟩)
  rotate_left
  · cases h0
  have R1 := rowAt_new w2 n0 g1 m F hr1
  have B2 := (below_next b1 b2).alloc (below_next b1 b2).size (.cells #[.int .i64 n0, .slice (some ⟨g1, 0, none⟩) m m] 24)
  clear hr1 b1 b2
  have c0 := R1.s.c0
  have c1 := R1.s.c1
  go_wp2_with fail
  generalize w2.heap.size = p1 at *
  generalize w2.alloc (.cells #[.int .i64 n0, .slice (some ⟨g1, 0, none⟩) m m] 24) = W2 at *
  clear c0 c1
  refine (HMEM.out _ _ _ (R1.wds HU.out) (hT.below B2)).mono ?_; rintro e w3 ⟨vm, rfl, hown, b3⟩
  obtain ⟨D, cd, rfl, hi, _⟩ := own_ints hown
  replace R1 := R1.next b3
  have B3 := below_next B2 b3
  clear hown B2 b3
  have HI := Lib.hid hi; clear hi
  go_wp2_with fail
  refine (HOF2.out _ _ _ HI.out).mono ?_; rintro e w4 (⟨_, g2, rfl, _, hr2, b4⟩ | ⟨h0, _⟩)
  rotate_left
  · cases h0
  have R2 := rowAt_new w4 n0 g2 m _ hr2
  replace R1 := (R1.next b4).alloc (.cells #[.int .i64 n0, .slice (some ⟨g2, 0, none⟩) m m] 24)
  have HI2 := Lib.hid ((HI.out.below b4).below ((Below.refl _ _).alloc (Nat.le_refl _) (.cells #[.int .i64 n0, .slice (some ⟨g2, 0, none⟩) m m] 24)))
  have B4 := (below_next B3 b4).alloc (below_next B3 b4).size (.cells #[.int .i64 n0, .slice (some ⟨g2, 0, none⟩) m m] 24)
  clear hr2 HI B3 b4
  go_wp2_with fail
  generalize w4.heap.size = p2 at *
  generalize w4.alloc (.cells #[.int .i64 n0, .slice (some ⟨g2, 0, none⟩) m m] 24) = W4 at *
  refine (clone_any B lb cb z _ (HZ.out.below B4) hl).mono ?_; rintro e w5 ⟨P, c, rfl, ho5, b5⟩
  have HO5 := Lib.hid ho5; clear ho5
  go_wp2_with fail
  refine (sort_any P lb c W4.heap.size _ _ HO5.out b5.size hl).mono ?_; rintro e w6 ⟨rfl, ho6, b6⟩
  have HO6 := Lib.hid ho6; clear ho6
  go_wp2_with fail
  refine (HCC.out P c W4.heap.size _ HO6.out).mono ?_; rintro e w7 ⟨rfl, hi7, b7⟩
  have b57 : Below W4.heap.size W4 w7 := (b5.trans b6).trans b7
  have HI7 := Lib.hid hi7; clear hi7
  have HI3 := Lib.hid (HI2.out.below b57)
  replace R1 := R1.next b57
  replace R2 := R2.next b57
  have B7 := below_next B4 b57
  clear b5 b6 b7 b57 HI2 B4 HO5 HO6
  go_wp2_with fail
  refine (equal_same _ _ _ _ _ _ _ HI3.out HI7.out (by omega)).mono ?_; rintro e w8 ⟨rfl, b8⟩
  replace R1 := R1.next b8
  replace R2 := R2.next b8
  have B8 := below_next B7 b8
  clear HI3 HI7 b8 B7
  have c0 := R1.s.c0
  have c1 := R1.s.c1
  have d0 := R2.s.c0
  have d1 := R2.s.c1
  go_wp2_with fail
  clear c0 c1 d0 d1
  refine (refSame_any n0 (some ⟨g2, 0, none⟩) (some ⟨g1, 0, none⟩) m m m _ F m true _ (R2.wds (ow_u64 _ _ _)) (R1.wds HU.out) hmo (Nat.le_refl _) HBW.out (Or.inl ⟨rfl, rfl⟩)).mono ?_; rintro e w9 ⟨rfl, b9⟩
  replace R1 := R1.next b9
  have B9 := below_next B8 b9
  clear R2 b9 B8
  have c0 := R1.s.c0
  have c1 := R1.s.c1
  go_wp2_with fail
  clear c0 c1
  refine (HCNT.out _ _ _ (R1.wds HU.out)).mono ?_; rintro e w10 ⟨rfl, b10⟩
  replace R1 := R1.next b10
  have B10 := below_next B9 b10
  clear b10 B9
  go_wp2_with fail
  go_loopw [13, 76] (fun x i wr => ∃ K : Nat, K ≤ lb ∧ i = .int .i64 K ∧ Below w10.heap.size w10 wr) (fun _ i _ => lb - (intOf i).toNat)
  case atStart => exact ⟨0, by omega, rfl, Below.refl _ _⟩
  case round =>
    obtain ⟨K, hK, rfl, hB⟩ := hrel
    have R3 := R1.next hB
    have B11 := below_next B10 hB
    have c0 := R3.s.c0
    have c1 := R3.s.c1
    by_cases hlt : K < lb
    · obtain ⟨b, off, rfl, hbl, hc⟩ := (HZ.out.below B11) (by omega)
      have x0 := hc K hlt
      clear hc hbl
      obtain ⟨zk, hzk⟩ : ∃ zk : Nat, z K = (zk : Int) := ⟨(z K).toNat, by have := HZ0.out K hlt; omega⟩
      have hzl : zk < n0 := by have := HZ0.out K hlt; omega
      have hbk : bt F zk = true := by
        have := HB.out K hlt
        rw [hzk] at this; simpa using this
      rw [hzk] at x0
      have HBK := Lib.hid hbk
      clear hbk hzk
      go_wp2_with fail
      clear c0 c1 x0
      refine (has_in n0 zk _ _ _ F true _ (R3.wds HU.out) HV.out hzl HBK.out).mono ?_; rintro e w2 ⟨rfl, b2⟩
      go_wp2_with fail
      go_roundw
      case rel => exact ⟨K + 1, by omega, by go_num, below_next hB b2⟩
      case measure => simp [intOf]; omega
    · obtain rfl : K = lb := by omega
      go_wp2_with fail
      clear c0 c1
      refine (has_out n0 (-1) _ _ _ F _ (R3.wds HU.out) (fun h => by have := h.2.1; omega)).mono ?_; rintro e w12 ⟨rfl, b12⟩
      have R4 := R3.next b12
      have c0 := R4.s.c0
      have c1 := R4.s.c1
      go_wp2_with fail
      clear c0 c1
      refine (has_out n0 n0 _ _ _ F _ (R4.wds HU.out) (fun h => by have := h.2.2; omega)).mono ?_; rintro e w13 ⟨rfl, b13⟩
      go_wp2_with fail
      go_ret
      exact ⟨by simp, below_next (below_next B11 b12) b13⟩
theorem back_law (n : Int) (B : Option Addr) (lb cb : Nat) (z : Nat → Int) (w : World) (hz : Ints w B lb z) (hT : Tab w) :
    Calls Tryd.prog 7 #[.int .i64 n, .slice B lb cb] w fun e w' => e = .returned (.bool true) ∧ Below w.heap.size w w' := by
  by_cases hlb : 600 < lb
  · exact back_long n B lb cb w hT hlb
  have hl := Nat.le_of_not_lt hlb
  by_cases hn : n < 0 ∨ 512 < n
  · exact back_size n B lb cb z w hz hT hl hn
  rcases first_of (fun k => decide (z k < 0 ∨ n ≤ z k)) lb with h | ⟨J, h1, h2, h3⟩
  · obtain ⟨n0, rfl⟩ := Int.eq_ofNat_of_zero_le (show 0 ≤ n by omega)
    exact back_good n0 B lb cb z w hz hT hl (by omega) (fun k hk => by have := of_decide_eq_false (h k hk); omega)
  · exact back_elem n B lb cb z w hz hT hl (by omega) (by omega) J h1 (of_decide_eq_true h2) (fun k hk => by have := of_decide_eq_false (h3 k hk); omega)
end Go.Proofs.YtijghglppgihmaaDoor
