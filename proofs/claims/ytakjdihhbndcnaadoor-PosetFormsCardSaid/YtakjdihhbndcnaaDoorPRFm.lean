/- The reference's From. -/
import Derived.Test.YtakjdihhbndcnaaDoorPRCl
namespace Go.Proofs.YtakjdihhbndcnaaDoor
open Go.RowKit Go.Sort
def RFromEnd (w : World) (n : Nat) (T : Nat → Nat → Bool) (e : Ending) (w' : World) : Prop :=
  (Acy n T ∧ ∃ A c R, e = .returned (.tuple #[.agg #[.slice A n c], .bool true]) ∧ Rel w' A n R ∧ VRel n R ∧ (∀ i, i < n → ∀ j, j < n → mat R i j = clo n T i j) ∧ Below w.heap.size w w') ∨
  (¬ Acy n T ∧ e = .returned (.tuple #[.agg #[.slice none 0 0], .bool false]) ∧ Below w.heap.size w w')
set_option maxRecDepth 100000 in
set_option maxHeartbeats 8000000 in
theorem rfrom_any (A : Option Addr) (n c : Nat) (R : Nat → RowD) (w : World) (h : Rel w A n R) (hv : VRel n R) : Calls Tryd.prog 18 #[.agg #[.slice A n c]] w (RFromEnd w n (mat R)) := by
  have HH := Lib.hid h
  have HV := Lib.hid hv
  have hn := hv.1
  have b0 : Below w.heap.size w ((w.alloc (.cells #[.slice A n c] 24)).alloc (.cells #[.slice none 0 0] 24)) := ((Below.refl _ _).alloc (Nat.le_refl _) _).alloc (by simp) _
  have rA := (relAt_new w A n c).alloc (.cells #[.slice none 0 0] 24)
  have rR := relAt_new (w.alloc (.cells #[.slice A n c] 24)) none 0 0
  have e1 : (w.alloc (.cells #[.slice A n c] 24)).heap.size = w.heap.size + 1 := by simp
  rw [e1] at rR
  have c0 := rA.c0
  obtain ⟨T, hT⟩ : ∃ T, T = clo n (mat R) := ⟨_, rfl⟩
  have HTT := Lib.hid hT
  have hsz : ((w.alloc (.cells #[.slice A n c] 24)).alloc (.cells #[.slice none 0 0] 24)).heap.size = w.heap.size + 2 := by simp
  have HSZ := Lib.hid hsz
  clear h hv e1 hT hsz
  go_enter Tryd.func18, Tryd.ntmps18
  go_upto_region 1 with fail
  generalize (w.alloc (.cells #[.slice A n c] 24)).alloc (.cells #[.slice none 0 0] 24) = W at *
  have HC := Lib.hid (rclosure_any A n c R W (HH.out.below b0) HV.out)
  rw [← HTT.out] at HC
  unfold RelNew at HC
  go_wp2_with fail
  refine HC.out.mono ?_; rintro e w2 ⟨Ao, co, S, rfl, hS, hF, hVS, hM, b2⟩
  have bN : Below w2.heap.size w2 (w2.alloc (.cells #[.slice Ao n co] 24)) := (Below.refl _ _).alloc (Nat.le_refl _) _
  have hO := relAt_new w2 Ao n co
  have hR := (rR.below b2).below bN
  have hB := below_next (below_next b0 b2) bN
  have HS := Lib.hid (hS.below bN)
  have HF := Lib.hid hF
  have HVS := Lib.hid hVS
  have HM := Lib.hid hM
  have hq : w.heap.size + 1 < w2.heap.size := by have := (rR.below b2).lt; omega
  have HW2 := Lib.hid (show w.heap.size + 2 ≤ W.heap.size by rw [HSZ.out]; exact Nat.le_refl _)
  clear HC hS hF hVS hM rA rR b0 b2 bN c0
  go_upto_region 2 with fail
  generalize w2.heap.size = q at *
  generalize w2.alloc (.cells #[.slice Ao n co] 24) = W3 at *
  go_wp2_with fail
  go_loopw [5] (fun i wr => ∃ K : Nat, K ≤ n ∧ i = .int .i64 K ∧ Hid (∀ k, k < K → T k k = false) ∧ RelAt wr (w.heap.size + 1) none 0 0 ∧ RelAt wr q Ao n co ∧ Below w.heap.size w wr ∧ Below W3.heap.size W3 wr) (fun i _ => n - (intOf i).toNat)
  case atStart => exact ⟨0, Nat.zero_le _, rfl, Lib.hid (fun k hk => absurd hk (Nat.not_lt_zero _)), hR, hO, hB, Below.refl _ _⟩
  case round =>
    clear hR hO hB
    obtain ⟨K, hK, rfl, hQ, hR, hO, hB, hB3⟩ := hrel
    have o0 := hO.c0
    by_cases hlt : K < n
    · have HL := Lib.hid (rless_any Ao n co K K S wr (HS.out.below hB3) HVS.out hlt hlt)
      rw [HM.out K hlt K hlt] at HL
      obtain ⟨v, hv⟩ : ∃ v, T K K = v := ⟨_, rfl⟩
      rw [hv] at HL
      have HVV := Lib.hid hv
      clear hv
      go_wp2_with fail
      refine HL.out.mono ?_; rintro e w4 ⟨rfl, b4⟩
      have hR4 := hR.below b4
      have hO4 := hO.below b4
      have hB4 := below_next hB b4
      have hB34 := below_next hB3 b4
      clear o0 HL hR hO hB hB3 b4
      cases v with
      | false =>
        go_wp2_with fail
        go_roundw
        case rel =>
          refine ⟨K + 1, hlt, by go_num, Lib.hid fun k hk => ?_, hR4, hO4, hB4, hB34⟩
          by_cases e : k = K
          · rw [e]; exact HVV.out
          · exact hQ.out k (by omega)
        case measure => simp [intOf]; omega
      | true =>
        have r0 := hR4.c0
        have f0 := hR4.free 0
        have B5 := Lib.hid (hB4.setCell (p := ⟨w.heap.size + 1, 0, none⟩) (by show w.heap.size ≤ w.heap.size + 1; omega) (.slice none 0 0))
        have hno : Hid (¬ Acy n (mat R)) := Lib.hid fun ha => by
          have h1 := ha K hlt
          rw [← HTT.out, HVV.out] at h1
          cases h1
        clear hB4 hB34 hO4
        go_wp2_with fail
        refine bodyPost_ret (v := .tuple #[.agg #[.slice none 0 0], .bool false]) (by simp [results, Tryd.results18, go_sem, r0]) rfl ?_
        exact .inr ⟨hno.out, rfl, B5.out⟩
    · obtain rfl : K = n := by omega
      have r0 := hR.c0
      have f0 := hR.free 0
      have hput := relOk_put (w := w) (w3 := W) (u := .slice Ao K co) (HS.out.below hB3) HF.out (by have := HW2.out; omega) hB
      have HP := Lib.hid hput
      have HA : Hid (Acy K (mat R)) := Lib.hid fun i hi => by rw [← HTT.out]; exact hQ.out i hi
      clear hput hQ hB hB3
      go_wp2_with fail
      refine bodyPost_ret (v := .tuple #[.agg #[.slice Ao K co], .bool true]) (by simp [results, Tryd.results18, go_sem, r0]) rfl ?_
      exact .inl ⟨HA.out, Ao, co, S, rfl, HP.out.1, HVS.out, fun i hi j hj => by rw [HM.out i hi j hj, HTT.out], HP.out.2.2⟩
end Go.Proofs.YtakjdihhbndcnaaDoor
