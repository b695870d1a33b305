/- Package poset: Covers, From, Less. -/
import Derived.Test.YtakjdihhbndcnaaDoorPVal
namespace Go.Proofs.YtakjdihhbndcnaaDoor
open Go.RowKit
theorem pvalid_any (A : Option Addr) (n c : Nat) (R : Nat → RowD) (v : Bool) (w : World) (h : Rel w A n R) (hn : n ≤ 1000000) (hT : Tab w) (hvv : v = true ↔ POrd n R) :
    Calls Tryd.prog 14 #[.agg #[.slice A n c]] w fun e w' => e = .returned (.bool v) ∧ Below w.heap.size w w' := by
  by_cases hv : VRel n R
  · exact pvalid_ok A n c R v w h hv hT (hvv.trans ⟨fun h => h.2, fun h => ⟨hv, h⟩⟩)
  · have : v = false := by
      cases hc : v with
      | false => rfl
      | true => exact absurd (hvv.1 hc).1 hv
    rw [this]
    exact pvalid_bad A n c R w h hn hv
/- an order is its own closure -/
theorem pord_trans {n : Nat} {T : Nat → Nat → Bool} (h : ∀ i, i < n → POk n T i) : Trans n T := fun i j k hi hj hk h1 h2 => (h i hi).2 j hj h1 k hk h2
theorem pord_clo {n : Nat} {T : Nat → Nat → Bool} (h : ∀ i, i < n → POk n T i) {i j : Nat} (hi : i < n) (hj : j < n) : clo n T i j = T i j :=
  bool_ext ⟨fun hc => clo_least (pord_trans h) (fun _ _ _ _ h => h) hi hj hc, fun ht => clo_base ht⟩
theorem pord_acy {n : Nat} {T : Nat → Nat → Bool} (h : ∀ i, i < n → POk n T i) : Acy n T := fun i hi => by rw [pord_clo h hi hi]; exact (h i hi).1
theorem pord_order {n : Nat} {T : Nat → Nat → Bool} (h : ∀ i, i < n → POk n T i) : (orderOf n T).isSome = true := by
  obtain ⟨r, hr⟩ := order_some (pord_acy h)
  rw [hr]; rfl
theorem acy_of {n : Nat} {T : Nat → Nat → Bool} (h : (orderOf n T).isSome = true) : Acy n T := by
  cases ho : orderOf n T with
  | none => rw [ho] at h; cases h
  | some r => exact order_acy ho
theorem clo_ord {n : Nat} {T : Nat → Nat → Bool} (h : Acy n T) : ∀ i, i < n → POk n (clo n T) i := fun i hi => ⟨h i hi, fun j hj h1 k hk h2 => clo_trans n T i j k hi hj hk h1 h2⟩
theorem pok_congr {n : Nat} {T S : Nat → Nat → Bool} (h : ∀ i, i < n → ∀ j, j < n → T i j = S i j) (hS : ∀ i, i < n → POk n S i) : ∀ i, i < n → POk n T i := fun i hi =>
  ⟨by rw [h i hi i hi]; exact (hS i hi).1, fun j hj h1 k hk h2 => by rw [h i hi k hk]; rw [h i hi j hj] at h1; rw [h j hj k hk] at h2; exact (hS i hi).2 j hj h1 k hk h2⟩
theorem relOk_put {w w3 w4 : World} {n : Nat} {A' : Option Addr} {R' : Nat → RowD} {u : Value} (hR : Rel w4 A' n R') (hF : Fresh w3.heap.size A' n R') (hlt : w.heap.size + 1 < w3.heap.size) (hB : Below w.heap.size w w4) :
    Rel (w4.setCell ⟨w.heap.size + 1, 0, none⟩ u) A' n R' ∧ Fresh w.heap.size A' n R' ∧ Below w.heap.size w (w4.setCell ⟨w.heap.size + 1, 0, none⟩ u) :=
  ⟨hR.far_new hF hlt _, hF.mono (by omega), hB.setCell (by show w.heap.size ≤ w.heap.size + 1; omega) _⟩
def CovEnd (w : World) (n : Nat) (R : Nat → RowD) (e : Ending) (w' : World) : Prop :=
  (POrd n R ∧ RelOk w n (red n (mat R)) e w') ∨ (¬ POrd n R ∧ RelErr w 1 e w')
set_option maxHeartbeats 2000000 in
theorem covers_any (A : Option Addr) (n c : Nat) (R : Nat → RowD) (w : World) (h : Rel w A n R) (hn : n ≤ 1000000) (hT : Tab w) :
    Calls Tryd.prog 20 #[.agg #[.slice A n c]] w (CovEnd w n R) := by
  have HH := Lib.hid h; clear h
  have hO := oneB_new w A n c
  have c0 := hO.a.c0
  obtain ⟨v, hvv⟩ : ∃ v : Bool, v = true ↔ POrd n R := ⟨@decide _ (Classical.propDecidable _), @decide_eq_true_iff _ (Classical.propDecidable _)⟩
  have HV := Lib.hid hvv
  go_enter Tryd.func20, Tryd.ntmps20
  go_wp2_with fail
  refine (pvalid_any A n c R v _ (HH.out.below hO.f) hn (hT.below hO.f) hvv).mono ?_; rintro e w2 ⟨rfl, b2⟩
  have hO2 := hO.next b2
  clear c0 hO hvv b2
  cases v with
  | false =>
    have r0 := hO2.r.c0
    have f0 := hO2.r.free 0
    go_wp2_with fail
    refine bodyPost_ret (v := .tuple #[.agg #[.slice none 0 0], .int .i64 1]) (by simp [results, Tryd.results20, go_sem, r0]) rfl ?_
    exact .inr ⟨fun h => (by have := HV.out.2 h; cases this), rfl, hO2.f.setCell (p := ⟨w.heap.size + 1, 0, none⟩) (by show w.heap.size ≤ w.heap.size + 1; omega) _⟩
  | true =>
    have hP := HV.out.1 rfl
    have HP := Lib.hid hP
    have c0 := hO2.a.c0
    have HC := Lib.hid (reduction_ok A n c R w2 (HH.out.below hO2.f) hP.1 (hT.below hO2.f) (pord_order hP.2))
    unfold RelOk at HC
    clear hP
    go_wp2_with fail
    refine HC.out.mono ?_; rintro e w3 ⟨A', c', R', rfl, hR, hF, hV', hM', b3⟩
    have hO3 := hO2.next b3
    have hlt := hO2.r.lt
    have r0 := hO3.r.c0
    have f0 := hO3.r.free 0
    have HR := Lib.hid hR
    have HF := Lib.hid hF
    have HV' := Lib.hid hV'
    have HM' := Lib.hid hM'
    clear c0 HC hR hF hV' hM' b3
    go_wp2_with fail
    refine bodyPost_ret (v := .tuple #[.agg #[.slice A' n c'], .int .i64 0]) (by simp [results, Tryd.results20, go_sem, r0]) rfl ?_
    have hput := relOk_put (u := .slice A' n c') HR.out HF.out hlt hO3.f
    exact .inl ⟨HP.out, A', c', R', rfl, hput.1, hput.2.1, HV'.out, HM'.out, hput.2.2⟩
def FromEnd (w : World) (n : Nat) (R : Nat → RowD) (e : Ending) (w' : World) : Prop :=
  (VRel n R ∧ Acy n (mat R) ∧ RelOk w n (clo n (mat R)) e w') ∨ (VRel n R ∧ ¬ Acy n (mat R) ∧ RelErr w 10 e w') ∨ (¬ VRel n R ∧ RelErr w 1 e w')
set_option maxHeartbeats 2000000 in
theorem from_any (A : Option Addr) (n c : Nat) (R : Nat → RowD) (w : World) (h : Rel w A n R) (hn : n ≤ 1000000) (hT : Tab w) :
    Calls Tryd.prog 13 #[.agg #[.slice A n c]] w (FromEnd w n R) := by
  have HH := Lib.hid h; clear h
  have hO := oneB_new w A n c
  have c0 := hO.a.c0
  go_enter Tryd.func13, Tryd.ntmps13
  go_wp2_with fail
  by_cases hv : VRel n R
  · have HV := Lib.hid hv
    refine (rvalid_yes A n c R _ (HH.out.below hO.f) HV.out).mono ?_; rintro e w2 ⟨rfl, b2⟩
    have hO2 := hO.next b2
    clear c0 hO hv b2
    have c0 := hO2.a.c0
    have HA := Lib.hid (acyclic_ok A n c R w2 (HH.out.below hO2.f) HV.out (hT.below hO2.f))
    obtain ⟨v, hvv⟩ : ∃ v, (orderOf n (mat R)).isSome = v := ⟨_, rfl⟩
    rw [hvv] at HA
    have HVV := Lib.hid hvv
    clear hvv
    go_wp2_with fail
    refine HA.out.mono ?_; rintro e w3 ⟨rfl, b3⟩
    have hO3 := hO2.next b3
    clear c0 hO2 b3 HA
    cases v with
    | false =>
      have r0 := hO3.r.c0
      have f0 := hO3.r.free 0
      go_wp2_with fail
      refine bodyPost_ret (v := .tuple #[.agg #[.slice none 0 0], .int .i64 10]) (by simp [results, Tryd.results13, go_sem, r0]) rfl ?_
      refine .inr (.inl ⟨HV.out, fun ha => ?_, rfl, hO3.f.setCell (p := ⟨w.heap.size + 1, 0, none⟩) (by show w.heap.size ≤ w.heap.size + 1; omega) _⟩)
      obtain ⟨r, hr⟩ := order_some ha
      have := HVV.out
      rw [hr] at this; cases this
    | true =>
      have c0 := hO3.a.c0
      have HC := Lib.hid (closure_ok A n c R w3 (HH.out.below hO3.f) HV.out)
      unfold RelOk at HC
      go_wp2_with fail
      refine HC.out.mono ?_; rintro e w4 ⟨A', c', R', rfl, hR, hF, hV', hM', b4⟩
      have hO4 := hO3.next b4
      have hlt := hO3.r.lt
      have r0 := hO4.r.c0
      have f0 := hO4.r.free 0
      have HR := Lib.hid hR
      have HF := Lib.hid hF
      have HV' := Lib.hid hV'
      have HM' := Lib.hid hM'
      clear c0 HC hR hF hV' hM' b4
      go_wp2_with fail
      refine bodyPost_ret (v := .tuple #[.agg #[.slice A' n c'], .int .i64 0]) (by simp [results, Tryd.results13, go_sem, r0]) rfl ?_
      have hput := relOk_put (u := .slice A' n c') HR.out HF.out hlt hO4.f
      exact .inl ⟨HV.out, acy_of HVV.out, A', c', R', rfl, hput.1, hput.2.1, HV'.out, HM'.out, hput.2.2⟩
  · have HV := Lib.hid hv
    refine (rvalid_no A n c R _ (HH.out.below hO.f) hn HV.out).mono ?_; rintro e w2 ⟨rfl, b2⟩
    have hO2 := hO.next b2
    clear c0 hO hv b2
    have r0 := hO2.r.c0
    have f0 := hO2.r.free 0
    go_wp2_with fail
    refine bodyPost_ret (v := .tuple #[.agg #[.slice none 0 0], .int .i64 1]) (by simp [results, Tryd.results13, go_sem, r0]) rfl ?_
    exact .inr (.inr ⟨HV.out, rfl, hO2.f.setCell (p := ⟨w.heap.size + 1, 0, none⟩) (by show w.heap.size ≤ w.heap.size + 1; omega) _⟩)
end Go.Proofs.YtakjdihhbndcnaaDoor
