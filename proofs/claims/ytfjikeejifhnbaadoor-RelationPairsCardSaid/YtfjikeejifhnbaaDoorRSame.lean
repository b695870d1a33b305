/- The reference's Same. -/
import Derived.Test.YtfjikeejifhnbaaDoorRSet
namespace Go.Proofs.YtfjikeejifhnbaaDoor
open Go.RowKit
/- the first word in which two relations differ: word X of row I; there is none: I = n -/
def Diff (n m : Nat) (R S : Nat → RowD) (I X : Nat) (v : Bool) : Prop :=
  (∀ i, i < I → ∀ k, k < m → (R i).f k = (S i).f k) ∧ ((v = true ∧ I = n) ∨ (v = false ∧ I < n ∧ X < m ∧ (∀ k, k < X → (R I).f k = (S I).f k) ∧ (R I).f X ≠ (S I).f X))
set_option maxRecDepth 100000 in
set_option maxHeartbeats 4000000 in
theorem same_core (A B : Option Addr) (n m ca cb : Nat) (R S : Nat → RowD) (I X : Nat) (v : Bool) (w : World) (h : Rel w A n R) (h2 : Rel w B n S) (hv : VRel n R) (hs : VRel n S) (hm : m = (n + 63) / 64) (hd : Diff n m R S I X v) :
    Calls Tryd.prog 13 #[.agg #[.slice A n ca], .agg #[.slice B n cb]] w fun e w' => e = .returned (.bool v) ∧ Below w.heap.size w w' := by
  have HH := Lib.hid h; clear h
  have HH2 := Lib.hid h2; clear h2
  have hn := hv.1
  have HV := Lib.hid hv; clear hv
  have HS := Lib.hid hs; clear hs
  have HM := Lib.hid hm
  have hm9 : m ≤ 9 := by omega
  clear hm
  obtain ⟨hd1, hd2⟩ := hd
  have HD1 := Lib.hid hd1
  have HD2 := Lib.hid hd2
  have hIn : I ≤ n := by rcases hd2 with ⟨_, h⟩ | ⟨_, h, _⟩ <;> omega
  clear hd1 hd2
  have hT0 := twoB_new w A B n n ca cb
  have r0 := relAt_new w A n ca
  have r1 := relAt_new (w.alloc (.cells #[.slice A n ca] 24)) B n cb
  have e1 : (w.alloc (.cells #[.slice A n ca] 24)).heap.size = w.heap.size + 1 := by simp
  rw [e1] at r1
  have ra := r0.alloc (.cells #[.slice B n cb] 24)
  have b0 : Below w.heap.size w ((w.alloc (.cells #[.slice A n ca] 24)).alloc (.cells #[.slice B n cb] 24)) := ((Below.refl _ _).alloc (Nat.le_refl _) _).alloc (by simp) _
  have hne : ((n : Int) != (n : Int)) = false := by simp
  clear hT0 r0 e1
  have c0 := ra.c0
  have d0 := r1.c0
  go_enter Tryd.func13, Tryd.ntmps13
  go_wp2_with fail
  clear c0 d0 hne
  go_loopw [5, 6, 7, 8] (fun i _ _ _ wr => ∃ K : Nat, K ≤ I ∧ i = .int .i64 K ∧ RelAt wr w.heap.size A n ca ∧ RelAt wr (w.heap.size + 1) B n cb ∧ Below w.heap.size w wr) (fun i _ _ _ _ => n - (intOf i).toNat)
  case atStart => exact ⟨0, by omega, rfl, ra, r1, b0⟩
  case round =>
    clear ra r1 b0
    obtain ⟨K, hK, rfl, ha, hb, hB⟩ := hrel
    have c0 := ha.c0
    by_cases hlt : K < n
    · obtain ⟨ba, oa, rfl, hba, hca⟩ := (HH.out.below hB) (by omega)
      obtain ⟨x0, x1, x2⟩ := hca K hlt
      obtain ⟨bb, ob, rfl, hbb, hcb⟩ := (HH2.out.below hB) (by omega)
      obtain ⟨y0, y1, y2⟩ := hcb K hlt
      have v1 := HV.out.2 K hlt
      have v2 := HS.out.2 K hlt
      have hEq : Hid (K < I → ∀ k, k < m → (R K).f k = (S K).f k) := fun hk => HD1.out K hk
      have hNe : Hid (¬ K < I → v = false ∧ X < m ∧ (∀ k, k < X → (R K).f k = (S K).f k) ∧ (R K).f X ≠ (S K).f X) := fun hk => by
        have hKI : K = I := by omega
        rcases HD2.out with ⟨_, h⟩ | ⟨h1, _, h3, h4, h5⟩
        · omega
        · rw [hKI]; exact ⟨h1, h3, h4, h5⟩
      clear hca hcb
      generalize R K = r1 at *
      generalize S K = r2 at *
      obtain ⟨N1, A1, l1, c1, f1⟩ := r1
      obtain ⟨N2, A2, l2, c2, f2⟩ := r2
      obtain ⟨e1, u1⟩ := v1
      obtain ⟨e2, u2⟩ := v2
      replace e1 : N1 = n := e1
      replace e2 : N2 = n := e2
      subst e1 e2
      have el1 : l1 = m := by have := u1.2.2.1; have h2 := HM.out; simp at this; omega
      have el2 : l2 = m := by have := u2.2.2.1; have h2 := HM.out; simp at this; omega
      rw [el1] at x1 x2
      rw [el2] at y1 y2
      replace x0 : wr.cell? ⟨ba, oa + K * 2, none⟩ = some (.int .i64 n) := x0
      replace x1 : wr.cell? ⟨ba, oa + K * 2 + 1, none⟩ = some (.slice A1 m c1) := x1
      replace y0 : wr.cell? ⟨bb, ob + K * 2, none⟩ = some (.int .i64 n) := y0
      replace y1 : wr.cell? ⟨bb, ob + K * 2 + 1, none⟩ = some (.slice A2 m c2) := y1
      have bA : Below wr.heap.size wr ((wr.alloc (.cells #[.int .i64 n, .slice A1 m c1] 63)).alloc (.cells #[.int .i64 n, .slice A2 m c2] 63)) := ((Below.refl _ _).alloc (Nat.le_refl _) _).alloc (by simp) _
      have bA1 : Below wr.heap.size wr (wr.alloc (.cells #[.int .i64 n, .slice A1 m c1] 63)) := (Below.refl _ _).alloc (Nat.le_refl _) _
      have W1 : Hid (Wds wr A1 m f1) := x2
      have W2 : Hid (Wds wr A2 m f2) := y2
      have d0 := (hb.below bA1).c0
      have y0' := (bA1.cell (p := ⟨bb, ob + K * 2, none⟩) hbb).trans y0
      have y1' := (bA1.cell (p := ⟨bb, ob + K * 2 + 1, none⟩) hbb).trans y1
      have s1 := (setAt_new wr n A1 m c1).alloc (.cells #[.int .i64 n, .slice A2 m c2] 63)
      have s2 := setAt_new (wr.alloc (.cells #[.int .i64 n, .slice A1 m c1] 63)) n A2 m c2
      have es : (wr.alloc (.cells #[.int .i64 n, .slice A1 m c1] 63)).heap.size = wr.heap.size + 1 := by simp
      rw [es] at s2
      have ha2 := ha.below bA
      have hb2 := hb.below bA
      have B2 := below_next hB bA
      have hneN : ((n : Int) != (n : Int)) = false := by simp
      have hneM : ((m : Int) != (m : Int)) = false := by simp
      clear el1 el2 u1 u2 x2 y2 es ha hb hB
      go_wp2_with fail
      clear x0 x1 y0 y1 y0' y1' c0 d0 hneN hneM bA1
      generalize hWi : (wr.alloc (.cells #[.int .i64 n, .slice A1 m c1] 63)).alloc (.cells #[.int .i64 n, .slice A2 m c2] 63) = Wi at *
      clear hWi
      have HW1 := Lib.hid (W1.out.below bA)
      have HW2 := Lib.hid (W2.out.below bA)
      clear W1 W2 bA
      obtain ⟨p, hp⟩ : ∃ p, p = wr.heap.size := ⟨_, rfl⟩
      rw [← hp] at s1 s2
      have hwp := Lib.hid hp
      by_cases hKI : K < I
      · have HE := Lib.hid (hEq.out hKI)
        clear hNe hEq
        go_loopw [8] (fun i w2 => ∃ D : Nat, D ≤ m ∧ i = .int .i64 D ∧ Below Wi.heap.size Wi w2) (fun i _ => m - (intOf i).toNat)
        case atStart => exact ⟨0, by omega, rfl, Below.refl _ _⟩
        case round =>
          obtain ⟨D, hD, rfl, hC⟩ := hrel
          have z1 := (s1.below hC).c1
          have z2 := (s2.below hC).c1
          rw [hwp.out] at z1 z2
          by_cases hDm : D < m
          · obtain ⟨b1, o1, rfl, _, h1⟩ := (HW1.out.below hC).2 (by omega)
            obtain ⟨b2, o2, rfl, _, h2⟩ := (HW2.out.below hC).2 (by omega)
            have x1 := h1 D hDm
            have x2 := h2 D hDm
            have he := HE.out D hDm
            replace he : f1 D = f2 D := he
            rw [← he] at x2
            clear h1 h2 he
            generalize f1 D = y at *
            have hny : ((y : Int) != (y : Int)) = false := by simp
            go_wp2_with fail
            go_quiet (fail)
            go_wp2_with fail
            go_roundw
            case rel => exact ⟨D + 1, by omega, by go_num, below_drewN hC _⟩
            case measure => simp [intOf]; omega
          · have ha3 := ha2.below hC
            have hb3 := hb2.below hC
            have B3 := below_next B2 hC
            go_wp2_with fail
            go_roundw
            case rel => exact ⟨K + 1, by omega, by go_num, ha3, hb3, B3⟩
            case measure => simp [intOf]; omega
      · obtain ⟨hv, hX, h4, h5⟩ := hNe.out hKI
        subst hv
        have HE := Lib.hid h4
        have HN := Lib.hid h5
        clear hNe hEq h4 h5
        go_loopw [8] (fun i w2 => ∃ D : Nat, D ≤ X ∧ i = .int .i64 D ∧ Below Wi.heap.size Wi w2) (fun i _ => X - (intOf i).toNat)
        case atStart => exact ⟨0, by omega, rfl, Below.refl _ _⟩
        case round =>
          obtain ⟨D, hD, rfl, hC⟩ := hrel
          have z1 := (s1.below hC).c1
          have z2 := (s2.below hC).c1
          rw [hwp.out] at z1 z2
          have hDm : D < m := by omega
          obtain ⟨b1, o1, rfl, _, h1⟩ := (HW1.out.below hC).2 (by omega)
          obtain ⟨b2, o2, rfl, _, h2⟩ := (HW2.out.below hC).2 (by omega)
          have x1 := h1 D hDm
          have x2 := h2 D hDm
          clear h1 h2
          by_cases hDX : D < X
          · have he := HE.out D hDX
            replace he : f1 D = f2 D := he
            rw [← he] at x2
            clear he
            generalize f1 D = y at *
            have hny : ((y : Int) != (y : Int)) = false := by simp
            go_wp2_with fail
            go_quiet (fail)
            go_wp2_with fail
            go_roundw
            case rel => exact ⟨D + 1, by omega, by go_num, below_drewN hC _⟩
            case measure => simp [intOf]; omega
          · obtain rfl : D = X := by omega
            have hne := HN.out
            replace hne : f1 D ≠ f2 D := hne
            clear HN
            generalize f1 D = y1 at *
            generalize f2 D = y2 at *
            have hq : ((y1 : Int) == (y2 : Int)) = false := beq_false_of_ne (by omega)
            have hny : ((y1 : Int) != (y2 : Int)) = true := by simp only [bne, hq]; rfl
            have HNE := Lib.hid hne
            clear hne
            go_wp2_with fail
            go_quiet (fail)
            go_wp2_with fail
            go_ret
            exact ⟨rfl, below_drewN (below_next B2 hC) _⟩
    · obtain rfl : K = n := by omega
      rcases HD2.out with ⟨rfl, h2⟩ | ⟨_, h2, _⟩
      · have HJ := Lib.hid h2; clear h2
        go_wp2_with fail
        go_ret
        exact ⟨rfl, hB⟩
      · omega
theorem rows_words {n m : Nat} {R S : Nat → RowD} {w : World} {A B : Option Addr} (hm : m = (n + 63) / 64) (h : Rel w A n R) (h2 : Rel w B n S) (hv : VRel n R) (hs : VRel n S) {i : Nat} (hi : i < n) :
    (∀ k, k < m → (R i).f k = (S i).f k) ↔ ∀ j, j < n → mat R i j = mat S i j := by
  have hl1 := hv.l hi
  have hl2 := hs.l hi
  obtain ⟨_, _, _, _, hc⟩ := h (by omega)
  obtain ⟨_, _, _, _, hd⟩ := h2 (by omega)
  have U1 := (hc i hi).2.2.1
  have U2 := (hd i hi).2.2.1
  rw [hl1, ← hm] at U1
  rw [hl2, ← hm] at U2
  constructor
  · intro hw j hj
    exact bt_congr hw j (by omega)
  · intro hb
    refine bt_ext U1 U2 (fun j hj => ?_)
    by_cases hjn : j < n
    · exact hb j hjn
    · have v1 := (hv.2 i hi).2.2.2.2 j (by simp; omega) (by rw [hl1, ← hm]; exact hj)
      have v2 := (hs.2 i hi).2.2.2.2 j (by simp; omega) (by rw [hl2, ← hm]; exact hj)
      rw [v1, v2]
theorem same_yes (A B : Option Addr) (n ca cb : Nat) (R S : Nat → RowD) (w : World) (h : Rel w A n R) (h2 : Rel w B n S) (hv : VRel n R) (hs : VRel n S) (he : ∀ i, i < n → ∀ j, j < n → mat R i j = mat S i j) :
    Calls Tryd.prog 13 #[.agg #[.slice A n ca], .agg #[.slice B n cb]] w fun e w' => e = .returned (.bool true) ∧ Below w.heap.size w w' :=
  same_core A B n _ ca cb R S n 0 true w h h2 hv hs rfl ⟨fun _ hi => (rows_words rfl h h2 hv hs hi).2 (he _ hi), Or.inl ⟨rfl, rfl⟩⟩
theorem same_no (A B : Option Addr) (n ca cb : Nat) (R S : Nat → RowD) (w : World) (h : Rel w A n R) (h2 : Rel w B n S) (hv : VRel n R) (hs : VRel n S) (i j : Nat) (hi : i < n) (hj : j < n) (he : mat R i j ≠ mat S i j) :
    Calls Tryd.prog 13 #[.agg #[.slice A n ca], .agg #[.slice B n cb]] w fun e w' => e = .returned (.bool false) ∧ Below w.heap.size w w' := by
  obtain ⟨I, hI, hI2, hI3⟩ := first_bad (p := fun i => ∀ k, k < (n + 63) / 64 → (R i).f k = (S i).f k) (n := n) (fun hall => he ((rows_words rfl h h2 hv hs hi).1 (hall i hi) j hj))
  obtain ⟨X, hX, hX2, hX3⟩ := first_bad (p := fun k => (R I).f k = (S I).f k) (n := (n + 63) / 64) hI2
  exact same_core A B n _ ca cb R S I X false w h h2 hv hs rfl ⟨fun i hi => hI3 i hi, Or.inr ⟨rfl, hI, hX, hX3, hX2⟩⟩
end Go.Proofs.YtfjikeejifhnbaaDoor
