/- The reference's Pairs of a relation. -/
import Derived.Test.YtfjikeejifhnbaaDoorRTab
namespace Go.Proofs.YtfjikeejifhnbaaDoor
open Go.RowKit
def rp (T : Nat → Nat → Bool) (K D : Nat) : List (Nat × Nat) := ((List.range D).filter (T K)).map fun j => (K, j)
theorem rp_yes {T : Nat → Nat → Bool} {K D : Nat} (h : T K D = true) : rp T K (D + 1) = rp T K D ++ [(K, D)] := by
  unfold rp; rw [List.range_succ, List.filter_append]; simp [h]
theorem rp_no {T : Nat → Nat → Bool} {K D : Nat} (h : T K D = false) : rp T K (D + 1) = rp T K D := by
  unfold rp; rw [List.range_succ, List.filter_append]; simp [h]
theorem rp_len (T : Nat → Nat → Bool) (K D : Nat) : (rp T K D).length ≤ D := by
  unfold rp
  have := List.length_filter_le (T K) (List.range D)
  simpa using this
set_option maxRecDepth 100000 in
set_option maxHeartbeats 4000000 in
theorem refPairs_any (A : Option Addr) (n c : Nat) (R : Nat → RowD) (w : World) (h : Rel w A n R) (hv : VRel n R) :
    Calls Tryd.prog 18 #[.agg #[.slice A n c]] w fun e w' => ∃ v, e = .returned v ∧ w'.ownsRow w.heap.size 38 2 v (pairsL (mat R) n n).length (pvals (pairsL (mat R) n n)) ∧ Below w.heap.size w w' := by
  have HH := Lib.hid h; clear h
  have hn := hv.1
  have HV := Lib.hid hv; clear hv
  have b0 : Below w.heap.size w (w.alloc (.cells #[.slice A n c] 24)) := (Below.refl _ _).alloc (Nat.le_refl _) _
  have c0 := (relAt_new w A n c).c0
  go_enter Tryd.func18, Tryd.ntmps18
  go_wp2_with fail
  clear c0
  refine (table_any A n c R _ (HH.out.below b0) HV.out).mono ?_; rintro e w1 ⟨v1, B1, C1, rfl, hT, k1⟩
  obtain ⟨A1, c1, rfl⟩ := hT.form
  replace hT := hT.mono (Nat.zero_le _)
  have b1 := below_next b0 k1
  clear b0 k1
  go_wp2_with fail
  go_loopw [4, 5, 6] (fun x i _ wr => ∃ (K : Nat) (v : Value), K ≤ n ∧ i = .int .i64 K ∧ v = x ∧ wr.ownsRow w1.heap.size 38 2 v (pairsL (mat R) n K).length (pvals (pairsL (mat R) n K)) ∧ Below w1.heap.size w1 wr) (fun _ i _ _ => n - (intOf i).toNat)
  case atStart => exact ⟨0, _, by omega, rfl, rfl, World.ownsRow_nil _ _ _ _, Below.refl _ _⟩
  case round =>
    obtain ⟨K, v, hK, rfl, rfl, hown, hB⟩ := hrel
    by_cases hlt : K < n
    · have hlP := pairsL_len (mat R) n K
      have hKn : K * n ≤ 512 * 512 := Nat.mul_le_mul (by omega) hn
      have hstep : Hid (pairsL (mat R) n (K + 1) = pairsL (mat R) n K ++ rp (mat R) K n) := rfl
      have hown0 : wr.ownsRow w1.heap.size 38 2 v (pairsL (mat R) n K ++ rp (mat R) K 0).length (pvals (pairsL (mat R) n K ++ rp (mat R) K 0)) := by
        rw [show rp (mat R) K 0 = [] from rfl, List.append_nil]; exact hown
      generalize pairsL (mat R) n K = P at *
      clear hown
      go_wp2_with fail
      go_loopw [4, 6] (fun x i w2 => ∃ (D : Nat) (v : Value), D ≤ n ∧ i = .int .i64 D ∧ v = x ∧ w2.ownsRow w1.heap.size 38 2 v (P ++ rp (mat R) K D).length (pvals (P ++ rp (mat R) K D)) ∧ Below w1.heap.size w1 w2) (fun _ i _ => n - (intOf i).toNat)
      case atStart => exact ⟨0, _, by omega, rfl, rfl, hown0, hB⟩
      case round =>
        clear hown0 hB
        obtain ⟨D, v, hD, rfl, rfl, hown, hB⟩ := hrel
        by_cases hlt2 : D < n
        · have HB := hT.below hB
          obtain ⟨gT, rfl, _, y0⟩ := HB.cell hlt
          have y1 := (HB.r K hlt).cell hlt2
          clear HB
          cases hTT : mat R K D
          · rw [hTT] at y1
            have hs := rp_no hTT
            rw [← hs] at hown
            clear hTT hs
            go_wp2_with fail
            go_roundw
            case rel => exact ⟨D + 1, v, by omega, by go_num, rfl, hown, hB⟩
            case measure => simp [intOf]; omega
          · rw [hTT] at y1
            have hs := rp_yes hTT
            have hs2 : Hid (P ++ rp (mat R) K (D + 1) = (P ++ rp (mat R) K D) ++ [(K, D)]) := by show _ = _; rw [hs, List.append_assoc]
            have hl := rp_len (mat R) K D
            have hlen : (P ++ rp (mat R) K D).length ≤ 1000000 := by rw [List.length_append]; omega
            clear hTT hs hl
            generalize P ++ rp (mat R) K D = Q at *
            go_wp2_with (at_builtin; refine append_pair rfl (.tmp 28) (.tmp 32) rfl w1.heap.size v Q K D K D wr rfl hown rfl hlen hB.size rfl rfl ?_)
            intro v' w5 hown5 hg5
            have bP : Below wr.heap.size wr (wr.alloc (.cells #[.int .i64 (K : Int), .int .i64 (D : Int)] 38)) := (Below.refl _ _).alloc (Nat.le_refl _) _
            have B5 := grown_below2 (below_next hB bP) (own_below hown bP) (Nat.le_refl _) hg5
            go_wp2_with fail
            go_roundw
            case rel => exact ⟨D + 1, v', by omega, by go_num, rfl, by rw [hs2.out, List.length_append]; exact hown5, B5⟩
            case measure => simp [intOf]; omega
        · obtain rfl : D = n := by omega
          rw [← hstep.out] at hown
          go_wp2_with fail
          go_roundw
          case rel => exact ⟨K + 1, v, by omega, by go_num, rfl, hown, hB⟩
          case measure => simp [intOf]; omega
    · obtain rfl : K = n := by omega
      have h1 := b1.size
      go_wp2_with fail
      go_ret
      exact ⟨v, rfl, own_mono hown h1, below_next b1 hB⟩
end Go.Proofs.YtfjikeejifhnbaaDoor
