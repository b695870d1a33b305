/- The examples of the chapter hold. -/
import Derived.Test.YtfjikeejifhnbaaDoorREq
namespace Go.Proofs.YtfjikeejifhnbaaDoor
open Go.RowKit
theorem prs_lit (w : World) (cs : Array Value) (m : Nat) (z : Nat → Int × Int) (h : ∀ k, k < m → cs[k * 2]? = some (.int .i64 (z k).1) ∧ cs[k * 2 + 1]? = some (.int .i64 (z k).2)) :
    Prs (w.alloc (.cells cs 38)) (some ⟨w.heap.size, 0, none⟩) m z := fun _ =>
  ⟨w.heap.size, 0, rfl, by simp, fun k hk => ⟨by rw [Nat.zero_add]; exact (cell_of_row _ _ _ _ _ _ (heap_alloc_new w _)).trans (h k hk).1, by rw [Nat.zero_add]; exact (cell_of_row _ _ _ _ _ _ (heap_alloc_new w _)).trans (h k hk).2⟩⟩
theorem ints_lit (w : World) (cs : Array Value) (m : Nat) (z : Nat → Int) (h : ∀ k, k < m → cs[k]? = some (.int .i64 (z k))) :
    Ints (w.alloc (.cells cs 3)) (some ⟨w.heap.size, 0, none⟩) m z := fun _ =>
  ⟨w.heap.size, 0, rfl, by simp, fun k hk => by rw [Nat.zero_add]; exact (cell_of_row _ _ _ _ _ _ (heap_alloc_new w _)).trans (h k hk)⟩
def exA : Nat → Int × Int := fun k => [(0, 1), (1, 2), (0, 2)].getD k (0, 0)
def exB : Nat → Int × Int := fun k => [(0, 1), (1, 2), (0, 2), (2, 1)].getD k (0, 0)
/- Make at numbers in range -/
theorem make_fine (n : Nat) (A : Option Addr) (m c : Nat) (z : Nat → Int × Int) (w : World) (hn : n ≤ 512) (h : Prs w A m z) (hm : m ≤ 1000000) (hz : ∀ k, k < m → 0 ≤ (z k).1 ∧ (z k).1 < n ∧ 0 ≤ (z k).2 ∧ (z k).2 < n) :
    Calls Tryd.prog 11 #[.int .i64 n, .slice A m c] w (RelOk w n (TwoOf z m)) :=
  (make_any n A m c z n true w hn h hm (fun k hk => ⟨(hz k hk).1, (hz k hk).2.1⟩) (Nat.le_refl _) (fun i _ => lst_in fun k hk => (hz k hk).2.2) (Or.inl ⟨rfl, rfl⟩)).mono fun e w' h => by
    rcases h with ⟨_, h⟩ | ⟨h, _⟩
    · exact h
    · cases h
theorem red_congr {n : Nat} {T S : Nat → Nat → Bool} (h : ∀ i, i < n → ∀ j, j < n → T i j = S i j) : ∀ i, i < n → ∀ j, j < n → red n T i j = red n S i j := fun i hi j hj => by
  unfold red
  rw [h i hi j hj, comp_congr h (clo_congr h) i hi j hj]
theorem exA_in : ∀ k, k < 3 → 0 ≤ (exA k).1 ∧ (exA k).1 < ((3 : Nat) : Int) ∧ 0 ≤ (exA k).2 ∧ (exA k).2 < ((3 : Nat) : Int) := by decide
theorem exB_in : ∀ k, k < 4 → 0 ≤ (exB k).1 ∧ (exB k).1 < ((3 : Nat) : Int) ∧ 0 ≤ (exB k).2 ∧ (exB k).2 < ((3 : Nat) : Int) := by decide
theorem exA_ord : (orderOf 3 (TwoOf exA 3)).isSome = true := by decide +kernel
theorem exA_red : pairsL (red 3 (TwoOf exA 3)) 3 3 = [(0, 1), (1, 2)] := by decide +kernel
theorem exB_first : firstCyc 3 (TwoOf exB 4) = some 1 := by decide +kernel
theorem exB_cyc : cycleFrom (TwoOf exB 4) 3 1 = [1, 2] := by decide +kernel
set_option maxRecDepth 100000 in
set_option maxHeartbeats 8000000 in
theorem awake_any (w : World) (hT : Tab w) : Calls Tryd.prog 9 #[] w fun e w' => e = .returned (.bool true) ∧ Below w.heap.size w w' := by
  have hp0 := Lib.hid (prs_lit w #[.int .i64 0, .int .i64 1, .int .i64 1, .int .i64 2, .int .i64 0, .int .i64 2] 3 exA (fun k hk => by
    match k, hk with
    | 0, _ => exact ⟨rfl, rfl⟩
    | 1, _ => exact ⟨rfl, rfl⟩
    | 2, _ => exact ⟨rfl, rfl⟩))
  have b0 : Below w.heap.size w (w.alloc (.cells #[.int .i64 0, .int .i64 1, .int .i64 1, .int .i64 2, .int .i64 0, .int .i64 2] 38)) := (Below.refl _ _).alloc (Nat.le_refl _) _
  go_enter Tryd.func9, Tryd.ntmps9
  go_wp2_with fail
  refine (make_fine 3 _ 3 3 exA _ (by decide) hp0.out (by decide) exA_in).mono ?_; rintro e w1 ⟨A1, c1, R1, rfl, hR1, _, hV1, hM1, b1⟩
  have bB : Below w1.heap.size w1 (w1.alloc (.cells #[.slice A1 3 c1] 24)) := (Below.refl _ _).alloc (Nat.le_refl _) _
  have B1 := below_next (below_next b0 b1) bB
  have r1 := relAt_new w1 A1 3 c1
  have H1 := Lib.hid (hR1.below bB)
  have V1 := Lib.hid hV1
  have M1 := Lib.hid hM1
  have hord : Hid ((orderOf 3 (mat R1)).isSome = true) := by show _ = _; rw [order_congr hM1]; exact exA_ord
  clear b0 b1 bB hR1 hV1 hM1 hp0
  have c0 := r1.c0
  go_wp2_with fail
  clear c0
  refine (reduction_ok A1 3 c1 R1 _ H1.out V1.out (hT.below B1) hord.out).mono ?_; rintro e w2 ⟨A2, c2, R2, rfl, hR2, _, hV2, hM2, b2⟩
  have bB : Below w2.heap.size w2 (w2.alloc (.cells #[.slice A2 3 c2] 24)) := (Below.refl _ _).alloc (Nat.le_refl _) _
  have B2 := below_next (below_next B1 b2) bB
  have r2 := relAt_new w2 A2 3 c2
  have H2 := Lib.hid (hR2.below bB)
  have V2 := Lib.hid hV2
  have hpl : Hid (pairsL (mat R2) 3 3 = [(0, 1), (1, 2)]) := by
    show _ = _
    rw [pairsL_congr 3 (fun i hi j hj => (hM2 i hi j hj).trans (red_congr M1.out i hi j hj))]
    exact exA_red
  clear B1 r1 H1 V1 M1 hord b2 bB hR2 hV2 hM2
  have c0 := r2.c0
  go_wp2_with fail
  clear c0
  refine (pairs_ok A2 3 c2 R2 _ H2.out V2.out (hT.below B2)).mono ?_; rintro e w3 ⟨vP, rfl, hownP, b3⟩
  rw [hpl.out] at hownP
  obtain ⟨AP, cP, rfl, hPP⟩ := own_prs hownP
  have B3 := below_next B2 b3
  have HPP := Lib.hid hPP
  have hp3 := Lib.hid (prs_lit w3 #[.int .i64 0, .int .i64 1, .int .i64 1, .int .i64 2, .int .i64 0, .int .i64 2, .int .i64 2, .int .i64 1] 4 exB (fun k hk => by
    match k, hk with
    | 0, _ => exact ⟨rfl, rfl⟩
    | 1, _ => exact ⟨rfl, rfl⟩
    | 2, _ => exact ⟨rfl, rfl⟩
    | 3, _ => exact ⟨rfl, rfl⟩))
  have b3' : Below w3.heap.size w3 (w3.alloc (.cells #[.int .i64 0, .int .i64 1, .int .i64 1, .int .i64 2, .int .i64 0, .int .i64 2, .int .i64 2, .int .i64 1] 38)) := (Below.refl _ _).alloc (Nat.le_refl _) _
  clear B2 r2 H2 V2 hpl hownP hPP b3
  go_wp2_with fail
  refine (make_fine 3 _ 4 4 exB _ (by decide) hp3.out (by decide) exB_in).mono ?_; rintro e w4 ⟨A4, c4, R4, rfl, hR4, _, hV4, hM4, b4⟩
  have bB : Below w4.heap.size w4 (w4.alloc (.cells #[.slice A4 3 c4] 24)) := (Below.refl _ _).alloc (Nat.le_refl _) _
  have bb := below_next (below_next b3' b4) bB
  have B4 := below_next B3 bb
  have P4 := Lib.hid (HPP.out.below bb)
  have r4 := relAt_new w4 A4 3 c4
  have H4 := Lib.hid (hR4.below bB)
  have V4 := Lib.hid hV4
  have hfc : Hid (firstCyc 3 (mat R4) = some 1 ∧ cycleFrom (mat R4) 3 1 = [1, 2]) := ⟨by rw [firstCyc_congr hM4]; exact exB_first, by rw [cycleFrom_congr (by decide) hM4]; exact exB_cyc⟩
  clear hp3 b3' HPP B3 b4 bB bb hR4 hV4 hM4
  have c0 := r4.c0
  go_wp2_with fail
  clear c0
  refine (cycle_ok A4 3 c4 R4 _ H4.out V4.out (hT.below B4)).mono ?_; rintro e w5 he
  rcases he with ⟨s, vC, hs, rfl, hownC, b5⟩ | ⟨hs, _⟩
  · have hs1 : s = 1 := by rw [hfc.out.1] at hs; exact (Option.some.inj hs).symm
    subst hs1
    rw [hfc.out.2] at hownC
    obtain ⟨AC, cC, rfl, hIC, _⟩ := own_ints hownC
    have B5 := below_next B4 b5
    have bL : Below w5.heap.size w5 (w5.alloc (.cells #[.int .i64 0, .int .i64 1, .int .i64 1, .int .i64 2] 38)) := (Below.refl _ _).alloc (Nat.le_refl _) _
    have P5 := Lib.hid ((P4.out.below b5).below bL)
    have I5 := Lib.hid (hIC.below bL)
    have hq5 := Lib.hid (prs_lit w5 #[.int .i64 0, .int .i64 1, .int .i64 1, .int .i64 2] 2 (zpair [(0, 1), (1, 2)]) (fun k hk => by
      match k, hk with
      | 0, _ => exact ⟨rfl, rfl⟩
      | 1, _ => exact ⟨rfl, rfl⟩))
    have B6 := below_next B5 bL
    clear hs hownC hIC B4 P4 r4 H4 V4 hfc b5 B5 bL
    go_wp2_with fail
    refine (equal_prs AP _ 2 cP 2 (zpair [(0, 1), (1, 2)]) _ P5.out hq5.out (by decide)).mono ?_; rintro e w7 ⟨rfl, b7⟩
    have B7 := below_next B6 b7
    have bL : Below w7.heap.size w7 (w7.alloc (.cells #[.int .i64 1, .int .i64 2] 3)) := (Below.refl _ _).alloc (Nat.le_refl _) _
    have I7 := Lib.hid ((I5.out.below b7).below bL)
    have hq7 := Lib.hid (ints_lit w7 #[.int .i64 1, .int .i64 2] 2 (gets [1, 2]) (fun k hk => by
      match k, hk with
      | 0, _ => rfl
      | 1, _ => rfl))
    have B8 := below_next B7 bL
    clear P5 I5 hq5 B6 b7 B7 bL
    go_wp2_with fail
    refine (equal_ints AC _ 2 cC 2 (gets [1, 2]) _ I7.out hq7.out (by decide)).mono ?_; rintro e w9 ⟨rfl, b9⟩
    go_wp2_with fail
    go_ret
    exact ⟨by simp, below_next B8 b9⟩
  · rw [hfc.out.1] at hs; cases hs
end Go.Proofs.YtfjikeejifhnbaaDoor
