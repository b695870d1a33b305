/- The contract of relation.Reduction. -/
import Derived.Test.YtakjdihhbndcnaaDoorRTop
namespace Go.Proofs.YtakjdihhbndcnaaDoor
open Go.RowKit
theorem testBit_andNot {x y : Nat} (hy : y < 18446744073709551616) (j : Nat) (hj : j < 64) : (andNot x y).testBit j = (x.testBit j && !y.testBit j) := by
  unfold andNot
  have e : 18446744073709551615 - y = 2 ^ 64 - (y + 1) := by omega
  rw [Nat.testBit_and, e, Nat.testBit_two_pow_sub_succ hy]
  simp [hj]
theorem bt_not (f g : Nat → Nat) (m i : Nat) (hg : U64 g m) (hi : i < 64 * m) : bt (comb andNot f g) i = (bt f i && !bt g i) := by
  unfold bt comb
  exact testBit_andNot (hg _ (by omega)) _ (by omega)
theorem u64_not {f g : Nat → Nat} {m : Nat} (hf : U64 f m) : U64 (comb andNot f g) m := fun k hk => Nat.lt_of_le_of_lt Nat.and_le_left (hf k hk)
theorem vld_not {N : Int} {m : Nat} {f g : Nat → Nat} (hf : Vld N m f) (hu : U64 g m) : Vld N m (comb andNot f g) :=
  ⟨hf.1, hf.2.1, hf.2.2.1, fun i h1 h2 => by rw [bt_not f g m i hu h2, hf.2.2.2 i h1 h2]; rfl⟩
/- a boxed relation, and the cell of the result -/
structure OneB (w wr : World) (A : Option Addr) (n c : Nat) : Prop where
  a : RelAt wr w.heap.size A n c
  r : RelAt wr (w.heap.size + 1) none 0 0
  f : Below w.heap.size w wr
theorem oneB_new (w : World) (A : Option Addr) (n c : Nat) : OneB w ((w.alloc (.cells #[.slice A n c] 24)).alloc (.cells #[.slice none 0 0] 24)) A n c := by
  have h1 := relAt_new (w.alloc (.cells #[.slice A n c] 24)) none 0 0
  have e1 : (w.alloc (.cells #[.slice A n c] 24)).heap.size = w.heap.size + 1 := by simp
  rw [e1] at h1
  exact ⟨(relAt_new w A n c).alloc _, h1, ((Below.refl _ _).alloc (Nat.le_refl _) _).alloc (by simp) _⟩
theorem OneB.next {w wr w2 : World} {A : Option Addr} {n c : Nat} (h : OneB w wr A n c) (k : Below wr.heap.size wr w2) : OneB w w2 A n c := ⟨h.a.below k, h.r.below k, below_next h.f k⟩
theorem reduction_err (A : Option Addr) (n c : Nat) (R : Nat → RowD) (w : World) (h : Rel w A n R) (hn : n ≤ 1000000) (hv : ¬ VRel n R) :
    Calls Tryd.prog 56 #[.agg #[.slice A n c]] w (RelErr w 1) := by
  have HH := Lib.hid h; clear h
  have HV := Lib.hid hv; clear hv
  have hO := oneB_new w A n c
  have c0 := hO.a.c0
  go_enter Tryd.func56, Tryd.ntmps56
  go_wp2_with fail
  refine (rvalid_no A n c R _ (HH.out.below hO.f) hn HV.out).mono ?_; rintro e w2 ⟨rfl, b2⟩
  have hO2 := hO.next b2
  have r0 := hO2.r.c0
  have f0 := hO2.r.free 0
  go_wp2_with fail
  refine bodyPost_ret (v := .tuple #[.agg #[.slice none 0 0], .int .i64 1]) (by simp [results, Tryd.results56, go_sem, r0]) rfl ?_
  exact ⟨rfl, hO2.f.setCell (p := ⟨w.heap.size + 1, 0, none⟩) (by show w.heap.size ≤ w.heap.size + 1; omega) _⟩
theorem reduction_cycle (A : Option Addr) (n c : Nat) (R : Nat → RowD) (w : World) (h : Rel w A n R) (hv : VRel n R) (hT : Tab w) (hc : orderOf n (mat R) = none) :
    Calls Tryd.prog 56 #[.agg #[.slice A n c]] w (RelErr w 10) := by
  have HH := Lib.hid h; clear h
  have HV := Lib.hid hv; clear hv
  have hO := oneB_new w A n c
  have hac := fun w' (h1 : Rel w' A n R) (h2 : Tab w') => acyclic_ok A n c R w' h1 HV.out h2
  rw [hc] at hac
  have HAC := Lib.hid hac; clear hac hc
  have c0 := hO.a.c0
  go_enter Tryd.func56, Tryd.ntmps56
  go_wp2_with fail
  refine (rvalid_yes A n c R _ (HH.out.below hO.f) HV.out).mono ?_; rintro e w2 ⟨rfl, b2⟩
  have hO2 := hO.next b2
  clear c0
  have c0 := hO2.a.c0
  go_wp2_with fail
  refine (HAC.out _ (HH.out.below hO2.f) (hT.below hO2.f)).mono ?_; rintro e w3 ⟨rfl, b3⟩
  have hO3 := hO2.next b3
  have r0 := hO3.r.c0
  have f0 := hO3.r.free 0
  go_wp2_with fail
  refine bodyPost_ret (v := .tuple #[.agg #[.slice none 0 0], .int .i64 10]) (by simp [results, Tryd.results56, go_sem, r0]) rfl ?_
  exact ⟨rfl, hO3.f.setCell (p := ⟨w.heap.size + 1, 0, none⟩) (by show w.heap.size ≤ w.heap.size + 1; omega) _⟩
set_option maxRecDepth 100000 in
set_option maxHeartbeats 8000000 in
theorem reduction_ok (A : Option Addr) (n c : Nat) (R : Nat → RowD) (w : World) (h : Rel w A n R) (hv : VRel n R) (hT : Tab w) (hc : (orderOf n (mat R)).isSome = true) :
    Calls Tryd.prog 56 #[.agg #[.slice A n c]] w (RelOk w n (red n (mat R))) := by
  have HH := Lib.hid h; clear h
  have hn := hv.1
  have HV := Lib.hid hv; clear hv
  have hO := oneB_new w A n c
  have hac := fun w' (h1 : Rel w' A n R) (h2 : Tab w') => acyclic_ok A n c R w' h1 HV.out h2
  rw [hc] at hac
  have HAC := Lib.hid hac; clear hac hc
  obtain ⟨m, hm⟩ : ∃ m, m = (n + 63) / 64 := ⟨_, rfl⟩
  have HM := Lib.hid hm
  have hm9 : m ≤ 9 := by omega
  clear hm
  have c0 := hO.a.c0
  go_enter Tryd.func56, Tryd.ntmps56
  go_wp2_with fail
  refine (rvalid_yes A n c R _ (HH.out.below hO.f) HV.out).mono ?_; rintro e w2 ⟨rfl, b2⟩
  have hO2 := hO.next b2
  clear c0 hO b2
  have c0 := hO2.a.c0
  go_wp2_with fail
  refine (HAC.out _ (HH.out.below hO2.f) (hT.below hO2.f)).mono ?_; rintro e w3 ⟨rfl, b3⟩
  have hO3 := hO2.next b3
  clear c0 hO2 b3
  have c0 := hO3.a.c0
  go_wp2_with fail
  refine (closure_ok A n c R _ (HH.out.below hO3.f) HV.out).mono ?_; rintro e w4 ⟨A4, c4, R4, rfl, hR4, _, hV4, hM4, b4⟩
  have bB : Below w4.heap.size w4 (w4.alloc (.cells #[.slice A4 n c4] 24)) := (Below.refl _ _).alloc (Nat.le_refl _) _
  have hO4 := (hO3.next b4).next bB
  have hB4 := relAt_new w4 A4 n c4
  have H4 := Lib.hid (hR4.below bB)
  have V4 := Lib.hid hV4
  have M4 := Lib.hid hM4
  clear c0 hO3 b4 bB hR4 hV4 hM4
  have c0 := hO4.a.c0
  have c1 := hB4.c0
  go_wp2_with fail
  refine (compose_ok A A4 n c c4 R R4 _ (HH.out.below hO4.f) H4.out HV.out V4.out (hT.below hO4.f)).mono ?_; rintro e w5 ⟨A5, c5, R5, rfl, hR5, _, hV5, hM5, b5⟩
  have bB : Below w5.heap.size w5 (w5.alloc (.cells #[.slice A5 n c5] 24)) := (Below.refl _ _).alloc (Nat.le_refl _) _
  have hO5 := (hO4.next b5).next bB
  have hB5 := relAt_new w5 A5 n c5
  have H5 := Lib.hid (hR5.below bB)
  have V5 := Lib.hid hV5
  have M5 : Hid (∀ i, i < n → ∀ j, j < n → mat R5 i j = comp n (mat R) (clo n (mat R)) i j) := fun i hi j hj => (hM5 i hi j hj).trans (comp_congr (fun _ _ _ _ => rfl) M4.out i hi j hj)
  clear c0 c1 hO4 b5 bB hR5 hV5 hM5 H4 V4 M4 hB4
  have c0 := hO5.a.c0
  have hmk := make_rows n (by omega)
  have hsz : (w5.alloc (.cells #[.slice A5 n c5] 24)).heap.size = w5.heap.size + 1 := by simp
  go_wp2_with fail
  clear c0 hmk
  generalize w5.heap.size = pd at *
  generalize w5.alloc (.cells #[.slice A5 n c5] 24) = W5 at *
  have hR := rows_made W5 n
  rw [hsz] at hR
  have HSZ := Lib.hid hsz; clear hsz
  have bR : Below W5.heap.size W5 (W5.alloc (.cells (madeCells #[.int .i64 0, .slice none 0 0] (n * 2)) 37)) := (Below.refl _ _).alloc (Nat.le_refl _) _
  have hU0 : Hid (RowsTo n 0 (fun _ => row0) (red n (mat R))) := fun k hk => absurd hk (Nat.not_lt_zero _)
  go_loopw [9, 37] (fun _ i wr => ∃ (I : Nat) (Q : Nat → RowD), I ≤ n ∧ i = .int .i64 I ∧ Rows wr (pd + 1) n Q ∧ Hid (RowsTo n I Q (red n (mat R))) ∧ Below W5.heap.size W5 wr) (fun _ i _ => n - (intOf i).toNat)
  case atStart => exact ⟨0, _, by omega, rfl, hR, hU0, bR⟩
  case round =>
    clear hR hU0 bR
    obtain ⟨I, Q, hI, rfl, hR, hU, b2⟩ := hrel
    by_cases hlt : I < n
    · have hOr := hO5.next b2
      have hBr := hB5.below b2
      obtain ⟨ba, oa, rfl, hba, hca⟩ := (HH.out.below hOr.f) (by omega)
      obtain ⟨x0, x1, x2⟩ := hca I hlt
      obtain ⟨bd, od, rfl, hbd, hcd⟩ := (H5.out.below b2) (by omega)
      obtain ⟨y0, y1, y2⟩ := hcd I hlt
      have v1 := HV.out.2 I hlt
      have v2 := V5.out.2 I hlt
      have t1 : Hid (∀ j, j < n → bt (R I).f j = mat R I j) := fun j _ => rfl
      have t2 : Hid (∀ j, j < n → bt (R5 I).f j = comp n (mat R) (clo n (mat R)) I j) := fun j hj => M5.out I hlt j hj
      clear hca hcd
      generalize R I = r1 at *
      generalize R5 I = r2 at *
      obtain ⟨N1, A1, l1, c1, f1⟩ := r1
      obtain ⟨N2, A2, l2, c2, f2⟩ := r2
      obtain ⟨e1, u1⟩ := v1
      obtain ⟨e2, u2⟩ := v2
      replace e1 : N1 = n := e1
      replace e2 : N2 = n := e2
      subst e1 e2
      have el1 : l1 = m := by have := u1.2.2.1; have h2 := HM.out; simp at this; omega
      have el2 : l2 = m := by have := u2.2.2.1; have h2 := HM.out; simp at this; omega
      rw [el1] at x1 x2 u1
      rw [el2] at y1 y2 u2
      replace x0 : wr.cell? ⟨ba, oa + I * 2, none⟩ = some (.int .i64 n) := x0
      replace x1 : wr.cell? ⟨ba, oa + I * 2 + 1, none⟩ = some (.slice A1 m c1) := x1
      replace y0 : wr.cell? ⟨bd, od + I * 2, none⟩ = some (.int .i64 n) := y0
      replace y1 : wr.cell? ⟨bd, od + I * 2 + 1, none⟩ = some (.slice A2 m c2) := y1
      have W1 : Hid (Wds wr A1 m f1) := x2
      have W2 : Hid (Wds wr A2 m f2) := y2
      have U1 : Hid (Vld n m f1) := u1
      have U2 : Hid (Vld n m f2) := u2
      have hN64 : Hid (∀ j, j < n → j < 64 * m) := fun j hj => by have := HM.out; omega
      have hun : Hid (∀ w', Wds w' A1 m f1 → Wds w' A2 m f2 → Calls Tryd.prog 86 #[.agg #[.int .i64 n, .slice A1 m c1], .agg #[.int .i64 n, .slice A2 m c2]] w' (SetOk w' n m (comb andNot f1 f2))) := fun w' h1 h2 => minusB_any n A1 A2 m c1 c2 f1 f2 w' h1 h2 U1.out U2.out
      have a0 := hOr.a.c0
      have d0 := hBr.c0
      clear el1 el2 u1 u2 x2 y2 hOr hBr
      go_wp2_with fail
      go_region_with (go_at_call 86; (with_reducible refine (hun.out _ W1.out.drew W2.out.drew).mono ?_); rintro e w6 ⟨g6, rfl, hg6, hrow6, b6⟩; have bc6 := below_next (Below.refl _ _).drew b6; have hR6 := hR.below bc6; have e0 := hR6.blk.cell (i := I * 2) (by omega); have e1 := hR6.blk.cell (i := I * 2 + 1) (by omega); have f0 := hR6.blk.frozen (I * 2); have g0 := hR6.blk.frozen (I * 2 + 1))
      all_goals
        have hg6' : pd + 1 < g6 := Nat.lt_of_lt_of_le hR.lt hg6
        have hR7 := hR6.set I ⟨n, some ⟨g6, 0, none⟩, m, m, comb andNot f1 f2⟩ (row_wds hrow6 (u64_not W1.out.1)) (fun a ha => by injection ha with ha; subst ha; exact hg6')
        have B7 := ((below_next b2 bc6).setCell (p := ⟨pd + 1, I * 2, none⟩) (by show W5.heap.size ≤ pd + 1; rw [HSZ.out]; exact Nat.le_refl _) (.int .i64 n)).setCell (p := ⟨pd + 1, I * 2 + 1, none⟩) (by show W5.heap.size ≤ pd + 1; rw [HSZ.out]; exact Nat.le_refl _) (.slice (some ⟨g6, 0, none⟩) m m)
        have HU : Hid (RowsTo n (I + 1) (upd Q I ⟨n, some ⟨g6, 0, none⟩, m, m, comb andNot f1 f2⟩) (red n (mat R))) := fun k hk => by
          unfold upd
          by_cases e : k = I
          · subst e
            rw [if_pos rfl]
            refine ⟨⟨rfl, vld_not U1.out W2.out.1⟩, fun j hj => ?_⟩
            refine (bt_not f1 f2 m j W2.out.1 (hN64.out j hj)).trans ?_
            rw [t1.out j hj, t2.out j hj]; rfl
          · rw [if_neg e]; exact hU.out k (by omega)
        clear hR b2 x0 x1 y0 y1 a0 d0 bc6 b6 hrow6 hR6 e0 e1 f0 g0 hU W1 W2
        go_wp2_with fail
        go_roundw
        case rel => exact ⟨I + 1, _, by omega, by go_num, hR7, HU, B7⟩
        case measure => simp [intOf]; omega
    · obtain rfl : I = n := by omega
      have hOr := hO5.next b2
      have r0 := hOr.r.c0
      have f0 := hOr.r.free 0
      have hqq : w.heap.size + 1 < pd + 1 := by rw [← HSZ.out]; exact hO5.r.lt
      have B3 := hOr.f.setCell (p := ⟨w.heap.size + 1, 0, none⟩) (by show w.heap.size ≤ w.heap.size + 1; omega) (.slice (some ⟨pd + 1, 0, none⟩) I I)
      have hR3 := hR.far (q := ⟨w.heap.size + 1, 0, none⟩) hqq (.slice (some ⟨pd + 1, 0, none⟩) I I)
      go_wp2_with fail
      refine bodyPost_ret (v := .tuple #[.agg #[.slice (some ⟨pd + 1, 0, none⟩) I I], .int .i64 0]) (by simp [results, Tryd.results56, go_sem, r0]) rfl ?_
      exact ⟨_, _, Q, rfl, hR3.rel, hR3.fresh (by omega), ⟨hn, fun k hk => (hU.out k hk).1⟩, fun i hi j hj => (hU.out i hi).2 j hj, B3⟩
end Go.Proofs.YtakjdihhbndcnaaDoor
