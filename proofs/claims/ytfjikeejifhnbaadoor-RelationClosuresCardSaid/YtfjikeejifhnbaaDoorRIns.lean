/- The laws' own inside: a relation's pairs belong to another one of the same size. -/
import Derived.Test.YtfjikeejifhnbaaDoorRBox
namespace Go.Proofs.YtfjikeejifhnbaaDoor
open Go.RowKit
/- the first word of the one that has a bit which the other lacks: word X of row I; there is none: I = n -/
def Out (n m : Nat) (R S : Nat → RowD) (I X : Nat) (v : Bool) : Prop :=
  (∀ i, i < I → ∀ k, k < m → andNot ((R i).f k) ((S i).f k) = 0) ∧ ((v = true ∧ I = n) ∨ (v = false ∧ I < n ∧ X < m ∧ (∀ k, k < X → andNot ((R I).f k) ((S I).f k) = 0) ∧ andNot ((R I).f X) ((S I).f X) ≠ 0))
set_option maxRecDepth 100000 in
set_option maxHeartbeats 4000000 in
theorem inside_core (A B : Option Addr) (n m ca cb : Nat) (R S : Nat → RowD) (I X : Nat) (v : Bool) (w : World) (h : Rel w A n R) (h2 : Rel w B n S) (hv : VRel n R) (hs : VRel n S) (hm : m = (n + 63) / 64) (hd : Out n m R S I X v) :
    Calls Tryd.prog 36 #[.agg #[.slice A n ca], .agg #[.slice B n cb]] w fun e w' => e = .returned (.bool v) ∧ Below w.heap.size w w' := by
  have HH := Lib.hid h; clear h
  have HH2 := Lib.hid h2; clear h2
  have hn := hv.1
  have HV := Lib.hid hv; clear hv
  have HS := Lib.hid hs; clear hs
  have HM := Lib.hid hm
  have hm9 : m ≤ 9 := by omega
  clear hm
  obtain ⟨hd1, hd2⟩ := hd
  have HD1 := Lib.hid hd1
  have HD2 := Lib.hid hd2
  have hIn : I ≤ n := by rcases hd2 with ⟨_, h⟩ | ⟨_, h, _⟩ <;> omega
  clear hd1 hd2
  have r0 := relAt_new w A n ca
  have r1 := relAt_new (w.alloc (.cells #[.slice A n ca] 24)) B n cb
  have e1 : (w.alloc (.cells #[.slice A n ca] 24)).heap.size = w.heap.size + 1 := by simp
  rw [e1] at r1
  have ra := r0.alloc (.cells #[.slice B n cb] 24)
  have b0 : Below w.heap.size w ((w.alloc (.cells #[.slice A n ca] 24)).alloc (.cells #[.slice B n cb] 24)) := ((Below.refl _ _).alloc (Nat.le_refl _) _).alloc (by simp) _
  have hne : ((n : Int) != (n : Int)) = false := by simp
  clear r0 e1
  have c0 := ra.c0
  go_enter Tryd.func36, Tryd.ntmps36
  go_wp2_with fail
  clear c0
  refine (refValid_yes A n ca R _ (HH.out.below b0) HV.out).mono ?_; rintro e w1 ⟨rfl, k1⟩
  replace ra := ra.below k1
  replace r1 := r1.below k1
  have b1 := below_next b0 k1
  clear b0 k1
  have c0 := r1.c0
  go_wp2_with fail
  clear c0
  refine (refValid_yes B n cb S _ (HH2.out.below b1) HS.out).mono ?_; rintro e w2 ⟨rfl, k2⟩
  replace ra := ra.below k2
  replace r1 := r1.below k2
  have b2 := below_next b1 k2
  clear b1 k2
  have c0 := ra.c0
  have d0 := r1.c0
  go_wp2_with fail
  clear c0 d0 hne
  go_loopw [5, 6, 7, 8, 29, 37] (fun _ _ _ _ i _ wr => ∃ K : Nat, K ≤ I ∧ i = .int .i64 K ∧ RelAt wr (w.heap.size + 1) B n cb ∧ Below w.heap.size w wr) (fun _ _ _ _ i _ _ => n - (intOf i).toNat)
  case atStart => exact ⟨0, by omega, rfl, r1, b2⟩
  case round =>
    clear ra r1 b2
    obtain ⟨K, hK, rfl, hb, hB⟩ := hrel
    by_cases hlt : K < n
    · obtain ⟨ba, oa, rfl, hba, hca⟩ := (HH.out.below hB) (by omega)
      obtain ⟨x0, x1, x2⟩ := hca K hlt
      obtain ⟨bb, ob, rfl, hbb, hcb⟩ := (HH2.out.below hB) (by omega)
      obtain ⟨_, y1, y2⟩ := hcb K hlt
      have v1 := HV.out.2 K hlt
      have v2 := HS.out.2 K hlt
      have hEq : Hid (K < I → ∀ k, k < m → andNot ((R K).f k) ((S K).f k) = 0) := fun hk => HD1.out K hk
      have hNe : Hid (¬ K < I → v = false ∧ X < m ∧ (∀ k, k < X → andNot ((R K).f k) ((S K).f k) = 0) ∧ andNot ((R K).f X) ((S K).f X) ≠ 0) := fun hk => by
        have hKI : K = I := by omega
        rcases HD2.out with ⟨_, h⟩ | ⟨h1, _, h3, h4, h5⟩
        · omega
        · rw [hKI]; exact ⟨h1, h3, h4, h5⟩
      clear hca hcb
      generalize R K = r1 at *
      generalize S K = r2 at *
      obtain ⟨N1, A1, l1, c1, f1⟩ := r1
      obtain ⟨N2, A2, l2, c2, f2⟩ := r2
      obtain ⟨e1, u1⟩ := v1
      obtain ⟨e2, u2⟩ := v2
      replace e1 : N1 = n := e1
      replace e2 : N2 = n := e2
      subst e1 e2
      have el1 : l1 = m := by have := u1.2.2.1; have h2 := HM.out; simp at this; omega
      have el2 : l2 = m := by have := u2.2.2.1; have h2 := HM.out; simp at this; omega
      rw [el1] at x1 x2
      rw [el2] at y1 y2
      replace x0 : wr.cell? ⟨ba, oa + K * 2, none⟩ = some (.int .i64 n) := x0
      replace x1 : wr.cell? ⟨ba, oa + K * 2 + 1, none⟩ = some (.slice A1 m c1) := x1
      replace y1 : wr.cell? ⟨bb, ob + K * 2 + 1, none⟩ = some (.slice A2 m c2) := y1
      have bA : Below wr.heap.size wr (wr.alloc (.cells #[.int .i64 n, .slice A1 m c1] 63)) := (Below.refl _ _).alloc (Nat.le_refl _) _
      have s1 := (setAt_new wr n A1 m c1)
      have hb2 := hb.below bA
      have B2 := below_next hB bA
      have Y1 := (bA.cell (p := ⟨bb, ob + K * 2 + 1, none⟩) hbb).trans y1
      have hbbW : bb < (wr.alloc (.cells #[.int .i64 n, .slice A1 m c1] 63)).heap.size := by simp; omega
      replace x2 := x2.below bA
      replace y2 := y2.below bA
      have W1 : Hid (Wds (wr.alloc (.cells #[.int .i64 n, .slice A1 m c1] 63)) A1 m f1) := x2
      have W2 : Hid (Wds (wr.alloc (.cells #[.int .i64 n, .slice A1 m c1] 63)) A2 m f2) := y2
      have c1' := s1.c1
      clear el1 el2 u1 u2 x2 y1 y2 hb hB bA hbb
      go_wp2_with fail
      clear x0 x1 c1' s1
      generalize hWi : wr.alloc (.cells #[.int .i64 n, .slice A1 m c1] 63) = Wi at *
      clear hWi
      by_cases hKI : K < I
      · have HE := Lib.hid (hEq.out hKI)
        clear hNe hEq
        go_loopw [7, 8, 37] (fun _ _ i w2 => ∃ D : Nat, D ≤ m ∧ i = .int .i64 D ∧ Below Wi.heap.size Wi w2) (fun _ _ i _ => m - (intOf i).toNat)
        case atStart => exact ⟨0, by omega, rfl, Below.refl _ _⟩
        case round =>
          obtain ⟨D, hD, rfl, hC⟩ := hrel
          have d0 := (hb2.below hC).c0
          have d1 := (hC.cell (p := ⟨bb, ob + K * 2 + 1, none⟩) hbbW).trans Y1
          by_cases hDm : D < m
          · obtain ⟨b1, o1, rfl, _, h1⟩ := (W1.out.below hC).2 (by omega)
            obtain ⟨b2, o2, rfl, _, h2⟩ := (W2.out.below hC).2 (by omega)
            have x1 := h1 D hDm
            have x2 := h2 D hDm
            have hn2 := u64_andNot_nat (f1 D) (f2 D) (W1.out.1 D hDm) (W2.out.1 D hDm)
            have he := HE.out D hDm
            replace he : andNot (f1 D) (f2 D) = 0 := he
            have heq : bits .andNot .u64 (f1 D : Int) (f2 D : Int) = 0 := by rw [hn2]; unfold andNot at he; rw [he]; rfl
            clear h1 h2 he hn2
            generalize f1 D = y at *
            generalize f2 D = z at *
            go_wp2_with fail
            go_roundw
            case rel => exact ⟨D + 1, by omega, by go_num, hC⟩
            case measure => simp [intOf]; omega
          · have hb3 := hb2.below hC
            have B3 := below_next B2 hC
            go_wp2_with fail
            go_roundw
            case rel => exact ⟨K + 1, by omega, by go_num, hb3, B3⟩
            case measure => simp [intOf]; omega
      · obtain ⟨hv, hX, h4, h5⟩ := hNe.out hKI
        subst hv
        have HE := Lib.hid h4
        have HN := Lib.hid h5
        clear hNe hEq h4 h5
        go_loopw [7, 8, 37] (fun _ _ i w2 => ∃ D : Nat, D ≤ X ∧ i = .int .i64 D ∧ Below Wi.heap.size Wi w2) (fun _ _ i _ => X - (intOf i).toNat)
        case atStart => exact ⟨0, by omega, rfl, Below.refl _ _⟩
        case round =>
          obtain ⟨D, hD, rfl, hC⟩ := hrel
          have d0 := (hb2.below hC).c0
          have d1 := (hC.cell (p := ⟨bb, ob + K * 2 + 1, none⟩) hbbW).trans Y1
          have hDm : D < m := by omega
          obtain ⟨b1, o1, rfl, _, h1⟩ := (W1.out.below hC).2 (by omega)
          obtain ⟨b2, o2, rfl, _, h2⟩ := (W2.out.below hC).2 (by omega)
          have x1 := h1 D hDm
          have x2 := h2 D hDm
          have hn2 := u64_andNot_nat (f1 D) (f2 D) (W1.out.1 D hDm) (W2.out.1 D hDm)
          clear h1 h2
          by_cases hDX : D < X
          · have he := HE.out D hDX
            replace he : andNot (f1 D) (f2 D) = 0 := he
            have heq : bits .andNot .u64 (f1 D : Int) (f2 D : Int) = 0 := by rw [hn2]; unfold andNot at he; rw [he]; rfl
            clear he hn2
            generalize f1 D = y at *
            generalize f2 D = z at *
            go_wp2_with fail
            go_roundw
            case rel => exact ⟨D + 1, by omega, by go_num, hC⟩
            case measure => simp [intOf]; omega
          · obtain rfl : D = X := by omega
            have hne := HN.out
            replace hne : andNot (f1 D) (f2 D) ≠ 0 := hne
            have he : (bits .andNot .u64 (f1 D : Int) (f2 D : Int) == 0) = false := by
              rw [hn2]; unfold andNot at hne; exact beq_false_of_ne (by omega)
            have he2 : (bits .andNot .u64 (f1 D : Int) (f2 D : Int) != 0) = true := by simp only [bne, he]; rfl
            clear HN hne hn2
            generalize f1 D = y1 at *
            generalize f2 D = y2 at *
            go_wp2_with fail
            go_ret
            exact ⟨rfl, below_next B2 hC⟩
    · obtain rfl : K = n := by omega
      rcases HD2.out with ⟨rfl, h2⟩ | ⟨_, h2, _⟩
      · have HJ := Lib.hid h2; clear h2
        go_wp2_with fail
        go_ret
        exact ⟨rfl, hB⟩
      · omega
theorem rows_sub {n m : Nat} {R S : Nat → RowD} {w : World} {A B : Option Addr} (hm : m = (n + 63) / 64) (h : Rel w A n R) (h2 : Rel w B n S) (hv : VRel n R) (hs : VRel n S) {i : Nat} (hi : i < n) :
    (∀ k, k < m → andNot ((R i).f k) ((S i).f k) = 0) ↔ ∀ j, j < n → mat R i j = true → mat S i j = true := by
  have hl1 := hv.l hi
  have hl2 := hs.l hi
  obtain ⟨_, _, _, _, hc⟩ := h (by omega)
  obtain ⟨_, _, _, _, hd⟩ := h2 (by omega)
  have U1 := (hc i hi).2.2.1
  have U2 := (hd i hi).2.2.1
  rw [hl1, ← hm] at U1
  rw [hl2, ← hm] at U2
  constructor
  · intro hw j hj h3
    have e := testBit_andNot (x := (R i).f (j / 64)) (U2 (j / 64) (by omega)) (j % 64) (Nat.mod_lt _ (by decide))
    rw [hw (j / 64) (by omega), Nat.zero_testBit] at e
    replace h3 : ((R i).f (j / 64)).testBit (j % 64) = true := h3
    rw [h3] at e
    show ((S i).f (j / 64)).testBit (j % 64) = true
    cases hq : ((S i).f (j / 64)).testBit (j % 64)
    · rw [hq] at e; cases e
    · rfl
  · intro hb k hk
    apply Nat.eq_of_testBit_eq
    intro x
    rw [Nat.zero_testBit]
    by_cases hx : x < 64
    · rw [testBit_andNot (U2 k hk) x hx]
      have hidx : (64 * k + x) / 64 = k := by omega
      have hmod : (64 * k + x) % 64 = x := by omega
      have e1 : mat R i (64 * k + x) = ((R i).f k).testBit x := by unfold mat bt; rw [hidx, hmod]
      have e2 : mat S i (64 * k + x) = ((S i).f k).testBit x := by unfold mat bt; rw [hidx, hmod]
      rw [← e1, ← e2]
      by_cases hjn : 64 * k + x < n
      · have := hb _ hjn
        cases h1 : mat R i (64 * k + x)
        · rfl
        · rw [this h1]; rfl
      · have v1 := (hv.2 i hi).2.2.2.2 (64 * k + x) (by simp; omega) (by rw [hl1, ← hm]; omega)
        have v1' : mat R i (64 * k + x) = false := v1
        rw [v1']; rfl
    · have h1 : andNot ((R i).f k) ((S i).f k) < 2 ^ x := by
        have a1 : andNot ((R i).f k) ((S i).f k) ≤ (R i).f k := Nat.and_le_left
        have a2 := U1 k hk
        have a3 : (18446744073709551616 : Nat) ≤ 2 ^ x := by
          have : (2 : Nat) ^ 64 ≤ 2 ^ x := Nat.pow_le_pow_right (by decide) (by omega)
          simpa using this
        omega
      exact Nat.testBit_lt_two_pow h1
theorem inside_yes (A B : Option Addr) (n ca cb : Nat) (R S : Nat → RowD) (w : World) (h : Rel w A n R) (h2 : Rel w B n S) (hv : VRel n R) (hs : VRel n S) (he : ∀ i, i < n → ∀ j, j < n → mat R i j = true → mat S i j = true) :
    Calls Tryd.prog 36 #[.agg #[.slice A n ca], .agg #[.slice B n cb]] w fun e w' => e = .returned (.bool true) ∧ Below w.heap.size w w' :=
  inside_core A B n _ ca cb R S n 0 true w h h2 hv hs rfl ⟨fun _ hi => (rows_sub rfl h h2 hv hs hi).2 (he _ hi), Or.inl ⟨rfl, rfl⟩⟩
theorem inside_no (A B : Option Addr) (n ca cb : Nat) (R S : Nat → RowD) (w : World) (h : Rel w A n R) (h2 : Rel w B n S) (hv : VRel n R) (hs : VRel n S) (he : ¬ ∀ i, i < n → ∀ j, j < n → mat R i j = true → mat S i j = true) :
    Calls Tryd.prog 36 #[.agg #[.slice A n ca], .agg #[.slice B n cb]] w fun e w' => e = .returned (.bool false) ∧ Below w.heap.size w w' := by
  obtain ⟨I, hI, hI2, hI3⟩ := first_bad (p := fun i => ∀ k, k < (n + 63) / 64 → andNot ((R i).f k) ((S i).f k) = 0) (n := n) (fun hall => he (fun i hi => (rows_sub rfl h h2 hv hs hi).1 (hall i hi)))
  obtain ⟨X, hX, hX2, hX3⟩ := first_bad (p := fun k => andNot ((R I).f k) ((S I).f k) = 0) (n := (n + 63) / 64) hI2
  exact inside_core A B n _ ca cb R S I X false w h h2 hv hs rfl ⟨fun i hi => hI3 i hi, Or.inr ⟨rfl, hI, hX, hX3, hX2⟩⟩
section
variable {w : World} {p q n c d : Nat} {A B : Option Addr} {R S : Nat → RowD} {T U : Nat → Nat → Bool}
theorem inside_box (X : BoxR w p n A c R T) (Y : BoxR w q n B d S U) (he : ∀ i, i < n → ∀ j, j < n → T i j = true → U i j = true) : Calls Tryd.prog 36 #[.agg #[.slice A n c], .agg #[.slice B n d]] w fun e w' => e = .returned (.bool true) ∧ Below w.heap.size w w' :=
  inside_yes A B n c d R S w X.r Y.r X.v Y.v (fun i hi j hj h => by rw [Y.m i hi j hj]; exact he i hi j hj (by rw [← X.m i hi j hj]; exact h))
theorem inside_box_no (X : BoxR w p n A c R T) (Y : BoxR w q n B d S U) (he : ¬ ∀ i, i < n → ∀ j, j < n → T i j = true → U i j = true) : Calls Tryd.prog 36 #[.agg #[.slice A n c], .agg #[.slice B n d]] w fun e w' => e = .returned (.bool false) ∧ Below w.heap.size w w' :=
  inside_no A B n c d R S w X.r Y.r X.v Y.v (fun h => he (fun i hi j hj h2 => by rw [← Y.m i hi j hj]; exact h i hi j hj (by rw [X.m i hi j hj]; exact h2)))
end
end Go.Proofs.YtfjikeejifhnbaaDoor
