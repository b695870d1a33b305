/- The law's awake: the example of the chapter. -/
import Derived.Test.YtmafnncpdccfdaaMRefC
namespace Go.Proofs.Ytmafnncpdccfdaa
open Go.RowKit
def E0 : Nat → Int × Int := fun i => ((i : Int), 0)
theorem vg0 : VG 2 2 2 E0 := ⟨by omega, by omega, by omega, by omega, by omega, fun i hi => ⟨⟨by show (0 : Int) ≤ (i : Int); omega, by show (i : Int) < 2; omega⟩, by show (0 : Int) ≤ 0; omega, by show (0 : Int) < 2; omega⟩, fun i j hij _ e => by
  have : ((i : Nat) : Int) = (j : Int) := congrArg Prod.fst e
  omega⟩
theorem aw_len : (prl (maxS (nbs E0 2) 2 2).L 2).length = 1 := by decide
theorem aw_l0 : tl (mleft 2 2 2 E0) false 2 = [] := by decide
theorem aw_r : tl (mseen 2 2 2 E0) true 2 = [0] := by decide
theorem aw_l1 : tl (mleft 2 2 2 E0) true 2 = [0, 1] := by decide
theorem aw_c0 : bcnt (setF []) 2 = 0 := by decide
theorem aw_c2 : bcnt (setF [0, 1]) 2 = 2 := by decide
theorem aw_b0 : bt (setF [0]) 0 = true := by decide
theorem aw_b1 : bt (setF [0]) 1 = false := by decide
theorem aw_vld (l : List Nat) (h : ∀ x, x ∈ l → x < 2) : Vld ((2 : Nat) : Int) 1 (setF l) := setF_vld (n := 2) (by omega) h
theorem aw_prs (w : World) : Prs (w.alloc (.cells #[.int .i64 0, .int .i64 0, .int .i64 1, .int .i64 0] 47)) (some ⟨w.heap.size, 0, none⟩) 2 E0 := fun _ => by
  have e := heap_alloc_new w (.cells #[.int .i64 0, .int .i64 0, .int .i64 1, .int .i64 0] 47)
  refine ⟨_, _, rfl, by simp, fun k hk => ?_⟩
  have hk2 : k = 0 ∨ k = 1 := by omega
  rcases hk2 with rfl | rfl
  · exact ⟨cell_of_row _ _ 0 _ _ _ e, cell_of_row _ _ 1 _ _ _ e⟩
  · exact ⟨cell_of_row _ _ 2 _ _ _ e, cell_of_row _ _ 3 _ _ _ e⟩
/- a set of the numbers 0, 1 that was made -/
def Two2 (w : World) (g : Nat) (l : List Nat) : Prop := w.rowIs g 64 1 (fun k => .int .u64 (setF l k : Nat))
theorem Two2.wds {w w' : World} {g : Nat} {l : List Nat} (h : Two2 w g l) (b : Below w.heap.size w w') : Wds w' (some ⟨g, 0, none⟩) 1 (setF l) := row_wds (row_below h b) (setF_u64 l 1)
set_option maxRecDepth 100000 in
set_option maxHeartbeats 2000000 in
theorem awake_any (w : World) : Calls Try.prog 9 #[] w fun e w' => e = .returned (.bool true) ∧ Below w.heap.size w w' := by
  have hP := aw_prs w
  have b0 := below_new w (.cells #[.int .i64 0, .int .i64 0, .int .i64 1, .int .i64 0] 47)
  go_enter Try.func9, Try.ntmps9
  go_upto_region 2 with fail
  generalize w.alloc (.cells #[.int .i64 0, .int .i64 0, .int .i64 1, .int .i64 0] 47) = W at *
  have HM : Hid (Calls Try.prog 11 #[.int .i64 2, .int .i64 2, .slice (some ⟨w.heap.size, 0, none⟩) 2 2] W fun e w' => ∃ A c, e = .returned (.tuple #[.slice A 1 c, .int .i64 0]) ∧ Below W.heap.size W w') := by
    refine (max_ok 2 2 2 2 (some ⟨w.heap.size, 0, none⟩) E0 W hP vg0).mono ?_
    rintro e w' ⟨v, rfl, hown, b⟩
    obtain ⟨A, c, rfl, _⟩ := own_prs hown
    rw [aw_len]
    exact ⟨A, c, rfl, b⟩
  have HC : Hid (∀ u, Below W.heap.size W u → Calls Try.prog 12 #[.int .i64 2, .int .i64 2, .slice (some ⟨w.heap.size, 0, none⟩) 2 2] u fun e w' => ∃ gX gY, e = .returned (.tuple #[.agg #[.int .i64 2, .slice (some ⟨gX, 0, none⟩) 1 1], .agg #[.int .i64 2, .slice (some ⟨gY, 0, none⟩) 1 1], .int .i64 0]) ∧ Two2 w' gX [] ∧ Two2 w' gY [0] ∧ Below u.heap.size u w') := fun u hu => by
    refine (cover_ok 2 2 2 2 (some ⟨w.heap.size, 0, none⟩) E0 u (hP.below hu) vg0).mono ?_
    rintro e w' ⟨gX, gY, rfl, h1, h2, b⟩
    rw [aw_l0] at h1
    rw [aw_r] at h2
    exact ⟨gX, gY, rfl, h1.2, h2.2, b⟩
  have HH : Hid (∀ u, Below W.heap.size W u → Calls Try.prog 22 #[.int .i64 2, .int .i64 2, .slice (some ⟨w.heap.size, 0, none⟩) 2 2] u fun e w' => ∃ gX, e = .returned (.tuple #[.agg #[.int .i64 2, .slice (some ⟨gX, 0, none⟩) 1 1], .int .i64 0]) ∧ Two2 w' gX [0, 1] ∧ Below u.heap.size u w') := fun u hu => by
    refine (hall_ok 2 2 2 2 (some ⟨w.heap.size, 0, none⟩) E0 u (hP.below hu) vg0).mono ?_
    rintro e w' (⟨h, _⟩ | ⟨_, gX, rfl, h1, b⟩)
    · rw [aw_len] at h; omega
    · rw [aw_l1] at h1
      exact ⟨gX, rfl, h1.2, b⟩
  clear hP
  go_wp2_with fail
  refine HM.out.mono ?_; rintro e w1 ⟨A, c, rfl, b1⟩
  have HMc := HM
  clear HM HMc
  go_wp2_with fail
  refine (HC.out _ b1).mono ?_; rintro e w2 ⟨gX, gY, rfl, hX, hY, b2⟩
  have B2 := below_next b1 b2
  have s4 := (setAt_new w2 2 (some ⟨gX, 0, none⟩) 1 1).alloc (.cells #[.int .i64 2, .slice (some ⟨gY, 0, none⟩) 1 1] 30)
  have s5 := setAt_new (w2.alloc (.cells #[.int .i64 2, .slice (some ⟨gX, 0, none⟩) 1 1] 30)) 2 (some ⟨gY, 0, none⟩) 1 1
  rw [show (w2.alloc (.cells #[.int .i64 2, .slice (some ⟨gX, 0, none⟩) 1 1] 30)).heap.size = w2.heap.size + 1 by simp] at s5
  have bA := below_next (below_new w2 (.cells #[.int .i64 2, .slice (some ⟨gX, 0, none⟩) 1 1] 30)) (below_new (w2.alloc (.cells #[.int .i64 2, .slice (some ⟨gX, 0, none⟩) 1 1] 30)) (.cells #[.int .i64 2, .slice (some ⟨gY, 0, none⟩) 1 1] 30))
  go_upto_region 4 with fail
  generalize (w2.alloc (.cells #[.int .i64 2, .slice (some ⟨gX, 0, none⟩) 1 1] 30)).alloc (.cells #[.int .i64 2, .slice (some ⟨gY, 0, none⟩) 1 1] 30) = w3 at *
  have B3 := below_next B2 bA
  go_wp2_with fail
  refine (HH.out _ B3).mono ?_; rintro e w4 ⟨gZ, rfl, hZ, b4⟩
  have s7 := setAt_new w4 2 (some ⟨gZ, 0, none⟩) 1 1
  have b5 := below_new w4 (.cells #[.int .i64 2, .slice (some ⟨gZ, 0, none⟩) 1 1] 30)
  have B5 := below_next (below_next B3 b4) b5
  have t4 := (s4.below b4).below b5
  have t5 := (s5.below b4).below b5
  have WX := Lib.hid (hX.wds (below_next (below_next bA b4) b5))
  have WY := Lib.hid (hY.wds (below_next (below_next bA b4) b5))
  have WZ := Lib.hid (hZ.wds b5)
  have BW := below_next b0 B5
  clear s4 s5 bA B2 B3 b4 b5 b1 b2 HC HH hX hY hZ b0 B5
  go_upto_region 5 with fail
  generalize w4.alloc (.cells #[.int .i64 2, .slice (some ⟨gZ, 0, none⟩) 1 1] 30) = w5 at *
  have c0 := t4.c0
  have c1 := t4.c1
  go_wp2_with fail
  refine (rIsSet_yes 2 (some ⟨gX, 0, none⟩) 1 1 (setF []) w5 WX.out (aw_vld [] (by simp))).mono ?_; rintro e w6 ⟨rfl, b6⟩
  have t4a := t4.below b6
  have c0 := t4a.c0
  have c1 := t4a.c1
  have Q6 := b6
  clear b6
  go_wp2_with fail
  refine (rCount_any 2 (some ⟨gX, 0, none⟩) 1 1 (setF []) w6 (WX.out.below Q6) (by omega) rfl).mono ?_; rintro e w7 ⟨rfl, b7⟩
  have Q7 := below_next Q6 b7
  rw [aw_c0]
  have t5a := t5.below Q7
  have c2 := t5a.c0
  have c3 := t5a.c1
  clear b7 c0 c1
  go_wp2_with fail
  refine (rIsSet_yes 2 (some ⟨gY, 0, none⟩) 1 1 (setF [0]) w7 (WY.out.below Q7) (aw_vld [0] (by simp))).mono ?_; rintro e w8 ⟨rfl, b8⟩
  have Q8 := below_next Q7 b8
  have t5b := t5.below Q8
  have c0 := t5b.c0
  have c1 := t5b.c1
  clear b8 c2 c3
  go_wp2_with fail
  refine (rHas_in 2 0 (some ⟨gY, 0, none⟩) 1 1 (setF [0]) true w8 (WY.out.below Q8) (by omega) (by omega) rfl aw_b0).mono ?_; rintro e w9 ⟨rfl, b9⟩
  have Q9 := below_next Q8 b9
  have t5c := t5.below Q9
  have c2 := t5c.c0
  have c3 := t5c.c1
  clear b9 c0 c1
  go_wp2_with fail
  refine (rHas_in 2 1 (some ⟨gY, 0, none⟩) 1 1 (setF [0]) false w9 (WY.out.below Q9) (by omega) (by omega) rfl aw_b1).mono ?_; rintro e w10 ⟨rfl, b10⟩
  have Q10 := below_next Q9 b10
  have t7a := s7.below Q10
  have c0 := t7a.c0
  have c1 := t7a.c1
  clear b10 c2 c3
  go_wp2_with fail
  refine (rIsSet_yes 2 (some ⟨gZ, 0, none⟩) 1 1 (setF [0, 1]) w10 (WZ.out.below Q10) (aw_vld [0, 1] (by simp))).mono ?_; rintro e w11 ⟨rfl, b11⟩
  have Q11 := below_next Q10 b11
  have t7b := s7.below Q11
  have c2 := t7b.c0
  have c3 := t7b.c1
  clear b11 c0 c1
  go_wp2_with fail
  refine (rCount_any 2 (some ⟨gZ, 0, none⟩) 1 1 (setF [0, 1]) w11 (WZ.out.below Q11) (by omega) rfl).mono ?_; rintro e w12 ⟨rfl, b12⟩
  rw [aw_c2]
  have Q12 := below_next (below_next BW Q11) b12
  go_wp2_with fail
  go_ret
  exact ⟨rfl, Q12⟩
end Go.Proofs.Ytmafnncpdccfdaa
