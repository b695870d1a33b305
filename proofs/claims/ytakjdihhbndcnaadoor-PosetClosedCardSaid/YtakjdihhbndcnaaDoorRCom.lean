/- The contract of relation.Compose. -/
import Derived.Test.YtakjdihhbndcnaaDoorRClo
namespace Go.Proofs.YtakjdihhbndcnaaDoor
open Go.RowKit
/- two boxed relations and the cell of the result -/
structure TwoB (w wr : World) (A B : Option Addr) (n m ca cb : Nat) : Prop where
  a : RelAt wr w.heap.size A n ca
  b : RelAt wr (w.heap.size + 1) B m cb
  r : RelAt wr (w.heap.size + 2) none 0 0
  f : Below w.heap.size w wr
theorem twoB_new (w : World) (A B : Option Addr) (n m ca cb : Nat) : TwoB w (((w.alloc (.cells #[.slice A n ca] 24)).alloc (.cells #[.slice B m cb] 24)).alloc (.cells #[.slice none 0 0] 24)) A B n m ca cb := by
  have h1 := relAt_new (w.alloc (.cells #[.slice A n ca] 24)) B m cb
  have e1 : (w.alloc (.cells #[.slice A n ca] 24)).heap.size = w.heap.size + 1 := by simp
  rw [e1] at h1
  have h2 := relAt_new ((w.alloc (.cells #[.slice A n ca] 24)).alloc (.cells #[.slice B m cb] 24)) none 0 0
  have e2 : ((w.alloc (.cells #[.slice A n ca] 24)).alloc (.cells #[.slice B m cb] 24)).heap.size = w.heap.size + 2 := by simp
  rw [e2] at h2
  exact ⟨((relAt_new w A n ca).alloc _).alloc _, h1.alloc _, h2, (((Below.refl _ _).alloc (Nat.le_refl _) _).alloc (by simp) _).alloc (by simp; omega) _⟩
theorem TwoB.next {w wr w2 : World} {A B : Option Addr} {n m ca cb : Nat} (h : TwoB w wr A B n m ca cb) (k : Below wr.heap.size wr w2) : TwoB w w2 A B n m ca cb := ⟨h.a.below k, h.b.below k, h.r.below k, below_next h.f k⟩
theorem TwoB.far {w wr : World} {A B : Option Addr} {n m ca cb : Nat} (h : TwoB w wr A B n m ca cb) {q : Addr} (hq : w.heap.size + 3 ≤ q.block) (u : Value) : TwoB w (wr.setCell q u) A B n m ca cb :=
  ⟨h.a.far (by omega) u, h.b.far (by omega) u, h.r.far (by omega) u, h.f.setCell (by omega) u⟩
theorem compose_len (A B : Option Addr) (n m ca cb : Nat) (w : World) (h : n ≠ m) : Calls Tryd.prog 85 #[.agg #[.slice A n ca], .agg #[.slice B m cb]] w (RelErr w 1) := by
  have hT := twoB_new w A B n m ca cb
  have a0 := hT.a.c0
  have b0 := hT.b.c0
  have r0 := hT.r.c0
  have f0 := hT.r.free 0
  have hne : ((m : Int) == (n : Int)) = false := beq_false_of_ne (by omega)
  have hne2 : ((m : Int) != (n : Int)) = true := by simp only [bne, hne]; rfl
  clear h
  go_enter Tryd.func85, Tryd.ntmps85
  go_wp2_with fail
  refine bodyPost_ret (v := .tuple #[.agg #[.slice none 0 0], .int .i64 1]) (by simp [results, Tryd.results85, go_sem, r0]) rfl ?_
  first
    | exact ⟨rfl, hT.f⟩
    | exact ⟨rfl, hT.f.setCell (p := ⟨w.heap.size + 2, 0, none⟩) (by show w.heap.size ≤ w.heap.size + 2; omega) _⟩
theorem compose_va (A B : Option Addr) (n ca cb : Nat) (R : Nat → RowD) (w : World) (h : Rel w A n R) (hn : n ≤ 1000000) (hv : ¬ VRel n R) : Calls Tryd.prog 85 #[.agg #[.slice A n ca], .agg #[.slice B n cb]] w (RelErr w 1) := by
  have HH := Lib.hid h; clear h
  have HV := Lib.hid hv; clear hv
  have hT := twoB_new w A B n n ca cb
  have a0 := hT.a.c0
  have b0 := hT.b.c0
  have hne2 : ((n : Int) != (n : Int)) = false := by simp
  go_enter Tryd.func85, Tryd.ntmps85
  go_wp2_with fail
  refine (rvalid_no A n ca R _ (HH.out.below hT.f) hn HV.out).mono ?_; rintro e w2 ⟨rfl, b2⟩
  have hT2 := hT.next b2
  have r0 := hT2.r.c0
  have f0 := hT2.r.free 0
  go_wp2_with fail
  refine bodyPost_ret (v := .tuple #[.agg #[.slice none 0 0], .int .i64 1]) (by simp [results, Tryd.results85, go_sem, r0]) rfl ?_
  exact ⟨rfl, hT2.f.setCell (p := ⟨w.heap.size + 2, 0, none⟩) (by show w.heap.size ≤ w.heap.size + 2; omega) _⟩
theorem compose_vb (A B : Option Addr) (n ca cb : Nat) (R S : Nat → RowD) (w : World) (h : Rel w A n R) (h2 : Rel w B n S) (hn : n ≤ 1000000) (hv : VRel n R) (hs : ¬ VRel n S) : Calls Tryd.prog 85 #[.agg #[.slice A n ca], .agg #[.slice B n cb]] w (RelErr w 1) := by
  have HH := Lib.hid h; clear h
  have HV := Lib.hid hv; clear hv
  have HH2 := Lib.hid h2; clear h2
  have HS := Lib.hid hs; clear hs
  have hT := twoB_new w A B n n ca cb
  have a0 := hT.a.c0
  have b0 := hT.b.c0
  have hne2 : ((n : Int) != (n : Int)) = false := by simp
  go_enter Tryd.func85, Tryd.ntmps85
  go_wp2_with fail
  refine (rvalid_yes A n ca R _ (HH.out.below hT.f) HV.out).mono ?_; rintro e w2 ⟨rfl, b2⟩
  have hT2 := hT.next b2
  have b1 := hT2.b.c0
  go_wp2_with fail
  refine (rvalid_no B n cb S _ (HH2.out.below hT2.f) hn HS.out).mono ?_; rintro e w3 ⟨rfl, b3⟩
  have hT3 := hT2.next b3
  have r0 := hT3.r.c0
  have f0 := hT3.r.free 0
  go_wp2_with fail
  refine bodyPost_ret (v := .tuple #[.agg #[.slice none 0 0], .int .i64 1]) (by simp [results, Tryd.results85, go_sem, r0]) rfl ?_
  exact ⟨rfl, hT3.f.setCell (p := ⟨w.heap.size + 2, 0, none⟩) (by show w.heap.size ≤ w.heap.size + 2; omega) _⟩
/- the first K rows are those of T -/
def RowsTo (n K : Nat) (R : Nat → RowD) (T : Nat → Nat → Bool) : Prop := ∀ i, i < K → VRow n (R i) ∧ ∀ j, j < n → bt (R i).f j = T i j
def zw : Nat → Nat := fun _ => 0
theorem zw_bt (j : Nat) : bt zw j = false := by simp [bt, zw]
theorem zw_u64 (m : Nat) : U64 zw m := fun k _ => by show 0 < _; omega
theorem zw_vld {n : Nat} (hn : n ≤ 512) : Vld (n : Int) ((n + 63) / 64) zw := ow_vld (z := fun _ => 0) (K := 0) hn (fun _ hk => absurd hk (Nat.not_lt_zero _))
set_option maxRecDepth 100000 in
set_option maxHeartbeats 8000000 in
theorem compose_ok (A B : Option Addr) (n ca cb : Nat) (R S : Nat → RowD) (w : World) (h : Rel w A n R) (h2 : Rel w B n S) (hv : VRel n R) (hs : VRel n S) (hT : Tab w) :
    Calls Tryd.prog 85 #[.agg #[.slice A n ca], .agg #[.slice B n cb]] w (RelOk w n (comp n (mat R) (mat S))) := by
  have HH := Lib.hid h; clear h
  have hn := hv.1
  have HV := Lib.hid hv; clear hv
  have HH2 := Lib.hid h2; clear h2
  have HS := Lib.hid hs; clear hs
  have hT0 := twoB_new w A B n n ca cb
  have a0 := hT0.a.c0
  have b0 := hT0.b.c0
  have hne2 : ((n : Int) != (n : Int)) = false := by simp
  obtain ⟨m, hm⟩ : ∃ m, m = (n + 63) / 64 := ⟨_, rfl⟩
  have HM := Lib.hid hm
  have hm9 : m ≤ 9 := by omega
  clear hm
  go_enter Tryd.func85, Tryd.ntmps85
  go_wp2_with fail
  refine (rvalid_yes A n ca R _ (HH.out.below hT0.f) HV.out).mono ?_; rintro e w2 ⟨rfl, b2⟩
  have hT2 := hT0.next b2
  clear hT0 b2 a0 b0
  have b1 := hT2.b.c0
  go_wp2_with fail
  refine (rvalid_yes B n cb S _ (HH2.out.below hT2.f) HS.out).mono ?_; rintro e w3 ⟨rfl, b3⟩
  have hT3 := hT2.next b3
  clear hT2 b3 b1 hne2
  have hmk := make_rows n (by omega)
  go_wp2_with fail
  clear hmk
  have hR := rows_made w3 n
  have hTB := hT3.next ((Below.refl _ _).alloc (Nat.le_refl _) (.cells (madeCells #[.int .i64 0, .slice none 0 0] (n * 2)) 37))
  have hU0 : Hid (RowsTo n 0 (fun _ => row0) (comp n (mat R) (mat S))) := fun k hk => absurd hk (Nat.not_lt_zero _)
  have hg3 : w.heap.size + 3 ≤ w3.heap.size := by have := hT3.r.lt; omega
  clear hT3
  generalize w3.heap.size = g at *
  go_loopw [8, 10, 34] (fun _ _ i wr => ∃ (I : Nat) (Q : Nat → RowD), I ≤ n ∧ i = .int .i64 I ∧ Rows wr g n Q ∧ Hid (RowsTo n I Q (comp n (mat R) (mat S))) ∧ TwoB w wr A B n n ca cb) (fun _ _ i _ => n - (intOf i).toNat)
  case atStart => exact ⟨0, _, by omega, rfl, hR, hU0, hTB⟩
  case round =>
    clear hR hU0 hTB
    obtain ⟨I, Q, hI, rfl, hR, hU, hTB⟩ := hrel
    by_cases hlt : I < n
    · have hof : Hid (∀ w', Calls Tryd.prog 70 #[.int .i64 n, .slice none 0 0] w' (SetOk w' n m zw)) := fun w' => by
        have := of_any n none 0 0 (fun _ => 0) 0 true w' hn (fun h => absurd h (Nat.lt_irrefl _)) (by decide) (Nat.le_refl _) (fun k hk => absurd hk (Nat.not_lt_zero _)) (Or.inl ⟨rfl, rfl⟩)
        exact this.mono fun e w1 h => by
          rcases h with ⟨_, h⟩ | ⟨h, _⟩
          · rw [HM.out]; exact h
          · cases h
      have z0 := hR.blk.cell (i := I * 2) (by omega)
      go_wp2_with fail
      refine (hof.out _).mono ?_; rintro e w4 ⟨g4, rfl, hg4, hrow4, b4⟩
      clear z0
      have hR4 := hR.below b4
      have hT4 := hTB.next b4
      have hg4' : g < g4 := Nat.lt_of_lt_of_le hR.lt hg4
      have z0 := hR4.blk.cell (i := I * 2) (by omega)
      have z1 := hR4.blk.cell (i := I * 2 + 1) (by omega)
      have f0 := hR4.blk.frozen (I * 2)
      have f1 := hR4.blk.frozen (I * 2 + 1)
      have hR5 := hR4.set I ⟨n, some ⟨g4, 0, none⟩, m, m, zw⟩ (row_wds hrow4 (zw_u64 _)) (fun a ha => by injection ha with ha; subst ha; exact hg4')
      have hT5 := (hT4.far (q := ⟨g, I * 2, none⟩) hg3 (.int .i64 n)).far (q := ⟨g, I * 2 + 1, none⟩) hg3 (.slice (some ⟨g4, 0, none⟩) m m)
      have hVI : Hid (VRow n (upd Q I ⟨n, some ⟨g4, 0, none⟩, m, m, zw⟩ I) ∧ ∀ j, j < n → bt (upd Q I ⟨n, some ⟨g4, 0, none⟩, m, m, zw⟩ I).f j = (List.take 0 (rowL (mat R) n I)).any fun k => mat S k j) := by
        have e : upd Q I ⟨n, some ⟨g4, 0, none⟩, m, m, zw⟩ I = ⟨n, some ⟨g4, 0, none⟩, m, m, zw⟩ := if_pos rfl
        show _ ∧ _
        rw [e]
        exact ⟨⟨rfl, by show Vld (n : Int) m _; rw [HM.out]; exact zw_vld hn⟩, fun j _ => zw_bt j⟩
      have hUI : Hid (RowsTo n I (upd Q I ⟨n, some ⟨g4, 0, none⟩, m, m, zw⟩) (comp n (mat R) (mat S))) := fun k hk => by
        have e : upd Q I ⟨n, some ⟨g4, 0, none⟩, m, m, zw⟩ k = Q k := if_neg (by omega)
        rw [e]; exact hU.out k hk
      clear hU hR hTB hT4 b4 hrow4 hR4
      have a5 := hT5.a.c0
      generalize upd Q I ⟨n, some ⟨g4, 0, none⟩, m, m, zw⟩ = Q5 at *
      obtain ⟨b, off, rfl, hbl, hcz⟩ := (HH.out.below hT5.f) (by omega)
      obtain ⟨x0, x1, x2⟩ := hcz I hlt
      have X2 := Lib.hid x2; clear x2 hcz hbl
      have hrow := members_row n (R I)
      have HRow : Hid (∀ w', Wds w' (R I).A (R I).l (R I).f → Tab w' → Calls Tryd.prog 89 #[.agg #[.int .i64 (R I).N, .slice (R I).A (R I).l (R I).c]] w' (RowOut w' (rowL (mat R) n I))) := fun w' h1 h2 => hrow w' h1 (HV.out.2 I hlt) h2
      clear hrow
      have hlr := rowL_len (mat R) n I
      have hcomp : Hid (∀ j, (rowL (mat R) n I).any (fun k => mat S k j) = comp n (mat R) (mat S) I j) := fun j => comp_rowL n _ _ I j
      have hLin : Hid (∀ x, x ∈ rowL (mat R) n I → x < n) := fun x hx => by have := (List.mem_filter.1 hx).1; simpa using this
      generalize rowL (mat R) n I = L at *
      go_wp2_with fail
      refine (HRow.out _ X2.out (hT.below hT5.f)).mono ?_; rintro e w6 ⟨vL, rfl, hownL, b6⟩
      have hT6 := hT5.next b6
      have hR6 := hR5.below b6
      replace hownL := own_mono (base' := g + 1) hownL (by have := hR5.lt; omega)
      clear a5 z0 z1 f0 f1 x0 x1 X2 HRow hT5 hR5 b6
      obtain ⟨AL, cL, rfl, _, hL2⟩ := own_ints hownL
      clear hL2
      go_wp2_with fail
      go_loopw [10, 52] (fun _ i wr => ∃ (D : Nat) (Q : Nat → RowD), D ≤ L.length ∧ i = .int .i64 D ∧ Rows wr g n Q ∧ Hid (RowsTo n I Q (comp n (mat R) (mat S))) ∧ Hid (VRow n (Q I) ∧ ∀ j, j < n → bt (Q I).f j = (L.take D).any fun k => mat S k j) ∧ TwoB w wr (some ⟨b, off, none⟩) B n n ca cb ∧ wr.ownsRow (g + 1) 3 1 (.slice AL L.length cL) L.length (vals L)) (fun _ i _ => L.length - (intOf i).toNat)
      case atStart => exact ⟨0, Q5, by omega, rfl, hR6, hUI, hVI, hT6, hownL⟩
      case round =>
        clear hR6 hUI hVI hT6 hownL
        obtain ⟨D, Q, hD, rfl, hR, hU, hV, hTB, hownL⟩ := hrel
        by_cases hlt2 : D < L.length
        · obtain ⟨AL', cL', heq, hIL, _⟩ := own_ints hownL
          injection heq with e1 _ e2
          subst e1 e2
          obtain ⟨bI, oI, rfl, _, hcI⟩ := hIL (by omega)
          have y := hcI D hlt2
          clear hcI hIL
          have hgt : gets L D = ((L[D] : Nat) : Int) := by unfold gets; rw [List.getD_eq_getElem?_getD, List.getElem?_eq_getElem hlt2]; rfl
          rw [hgt] at y
          have hkn := hLin.out _ (List.getElem_mem hlt2)
          have htk : Hid (∀ p : Nat → Bool, (L.take (D + 1)).any p = ((L.take D).any p || p L[D])) := fun p => by
            rw [List.take_succ_eq_append_getElem hlt2, List.any_append]; simp
          clear hgt
          generalize L[D] = k at *
          obtain ⟨bs, os, rfl, hbs, hcs⟩ := (HH2.out.below hTB.f) (by omega)
          obtain ⟨x0, x1, x2⟩ := hcs k hkn
          have z0 := hR.c0 hlt
          have z1 := hR.c1 hlt
          have w1 := (hR.wds I hlt).1
          have v2 := HS.out.2 k hkn
          have hVk : Hid (∀ j, j < n → bt (S k).f j = mat S k j) := fun j _ => rfl
          have hSI : Hid (∀ r, RowsTo n I Q (comp n (mat R) (mat S)) → VRow n r → (∀ j, j < n → bt r.f j = (L.take (D + 1)).any fun k => mat S k j) → RowsTo n I (upd Q I r) (comp n (mat R) (mat S)) ∧ VRow n (upd Q I r I) ∧ ∀ j, j < n → bt (upd Q I r I).f j = (L.take (D + 1)).any fun k => mat S k j) := fun r h1 h2 h3 => by
            have e : upd Q I r I = r := if_pos rfl
            rw [e]
            exact ⟨fun a ha => by have e : upd Q I r a = Q a := if_neg (by omega); rw [e]; exact h1 a ha, h2, h3⟩
          clear hcs
          obtain ⟨v1, t1⟩ := hV.out
          generalize Q I = r1 at *
          generalize S k = r2 at *
          obtain ⟨N1, A1, l1, c1, f1⟩ := r1
          obtain ⟨N2, A2, l2, c2, f2⟩ := r2
          obtain ⟨e1, u1⟩ := v1
          obtain ⟨e2, u2⟩ := v2
          replace e1 : N1 = n := e1
          replace e2 : N2 = n := e2
          subst e1 e2
          have el1 : l1 = m := by have := u1.2.2.1; have h2 := HM.out; simp at this; omega
          have el2 : l2 = m := by have := u2.2.2.1; have h2 := HM.out; simp at this; omega
          rw [el1] at z1 w1 u1
          rw [el2] at x1 x2 u2
          replace z0 : wr.cell? ⟨g, I * 2, none⟩ = some (.int .i64 n) := z0
          replace z1 : wr.cell? ⟨g, I * 2 + 1, none⟩ = some (.slice A1 m c1) := z1
          replace x0 : wr.cell? ⟨bs, os + k * 2, none⟩ = some (.int .i64 n) := x0
          replace x1 : wr.cell? ⟨bs, os + k * 2 + 1, none⟩ = some (.slice A2 m c2) := x1
          have W1 : Hid (Wds wr A1 m f1) := w1
          have W2 : Hid (Wds wr A2 m f2) := x2
          have U1 : Hid (Vld n m f1) := u1
          have U2 : Hid (Vld n m f2) := u2
          have T1 : Hid (∀ j, j < n → bt f1 j = (L.take D).any fun k => mat S k j) := t1
          have T2 : Hid (∀ j, j < n → bt f2 j = mat S k j) := hVk
          have hun : Hid (∀ w', Wds w' A1 m f1 → Wds w' A2 m f2 → Calls Tryd.prog 71 #[.agg #[.int .i64 n, .slice A1 m c1], .agg #[.int .i64 n, .slice A2 m c2]] w' (SetOk w' n m (comb orW f1 f2))) := fun w' h1 h2 => unionB_any n A1 A2 m c1 c2 f1 f2 w' h1 h2 U1.out U2.out
          have b0 := hTB.b.c0
          clear el1 el2 u1 u2 w1 x2 t1 hVk
          go_wp2_with fail
          go_region_with (go_at_call 71; (with_reducible refine (hun.out _ W1.out.drew W2.out.drew).mono ?_); rintro e w5 ⟨g5, rfl, hg5, hrow5, b5⟩; have bc5 := below_next (Below.refl _ _).drew b5; have hR5 := hR.below bc5; have e0 := hR5.blk.cell (i := I * 2) (by omega); have e1 := hR5.blk.cell (i := I * 2 + 1) (by omega); have f0 := hR5.blk.frozen (I * 2); have g0 := hR5.blk.frozen (I * 2 + 1))
          all_goals
            have hg5' : g < g5 := Nat.lt_of_lt_of_le hR.lt hg5
            have hT5 := ((hTB.next bc5).far (q := ⟨g, I * 2, none⟩) hg3 (.int .i64 n)).far (q := ⟨g, I * 2 + 1, none⟩) hg3 (.slice (some ⟨g5, 0, none⟩) m m)
            have hL5 := ownsRow_setCell_below (ownsRow_setCell_below (own_below hownL bc5) (a := ⟨g, I * 2, none⟩) (Nat.lt_succ_self _) (.int .i64 n)) (a := ⟨g, I * 2 + 1, none⟩) (Nat.lt_succ_self _) (.slice (some ⟨g5, 0, none⟩) m m)
            have hR6 := hR5.set I ⟨n, some ⟨g5, 0, none⟩, m, m, comb orW f1 f2⟩ (row_wds hrow5 (u64_or2 W1.out.1 W2.out.1)) (fun a ha => by injection ha with ha; subst ha; exact hg5')
            obtain ⟨hU6, hV6⟩ := hSI.out ⟨n, some ⟨g5, 0, none⟩, m, m, comb orW f1 f2⟩ hU.out ⟨rfl, vld_or2 U1.out U2.out⟩ (fun j hj => by rw [htk.out]; exact (bt_or f1 f2 j).trans (by rw [T1.out j hj, T2.out j hj]))
            have HU6 := Lib.hid hU6
            have HV6 := Lib.hid hV6
            clear hR hTB hownL z0 z1 x0 x1 y b0 bc5 b5 hrow5 hR5 e0 e1 f0 g0 hU6 hV6 W1 W2
            go_wp2_with fail
            go_roundw
            case rel => exact ⟨D + 1, _, by omega, by go_num, hR6, HU6, HV6, hT5, hL5⟩
            case measure => simp [intOf]; omega
        · obtain rfl : D = L.length := by omega
          have hU2 : Hid (RowsTo n (I + 1) Q (comp n (mat R) (mat S))) := fun k hk => by
            by_cases e : k = I
            · subst e
              refine ⟨hV.out.1, fun j hj => ?_⟩
              rw [hV.out.2 j hj, List.take_length]; exact hcomp.out j
            · exact hU.out k (by omega)
          go_wp2_with fail
          go_roundw
          case rel => exact ⟨I + 1, Q, by omega, by go_num, hR, hU2, hTB⟩
          case measure => simp [intOf]; omega
    · obtain rfl : I = n := by omega
      have r0 := hTB.r.c0
      have f0 := hTB.r.free 0
      have B3 := hTB.f.setCell (p := ⟨w.heap.size + 2, 0, none⟩) (by show w.heap.size ≤ w.heap.size + 2; omega) (.slice (some ⟨g, 0, none⟩) I I)
      have hR3 := hR.far (q := ⟨w.heap.size + 2, 0, none⟩) (by show w.heap.size + 2 < g; omega) (.slice (some ⟨g, 0, none⟩) I I)
      go_wp2_with fail
      refine bodyPost_ret (v := .tuple #[.agg #[.slice (some ⟨g, 0, none⟩) I I], .int .i64 0]) (by simp [results, Tryd.results85, go_sem, r0]) rfl ?_
      exact ⟨_, _, Q, rfl, hR3.rel, hR3.fresh (by omega), ⟨hn, fun k hk => (hU.out k hk).1⟩, fun i hi j hj => (hU.out i hi).2 j hj, B3⟩
end Go.Proofs.YtakjdihhbndcnaaDoor
