/- The contract of relation.Closure. -/
import Derived.Test.YtakjdihhbndcnaaDoorRMak3
import Derived.Lib.SliceRun
namespace Go.Proofs.YtakjdihhbndcnaaDoor
open Go.RowKit
theorem Wds.drew {w : World} {A : Option Addr} {m : Nat} {f : Nat → Nat} (h : Wds w A m f) : Wds w.drew A m f := h
theorem clone_words (A : Option Addr) (l c : Nat) (f : Nat → Nat) (w : World) (hl : 0 < l) (hl2 : l ≤ 1000) (h : Wds w A l f) :
    Calls Tryd.prog 80 #[.slice A l c] w fun e w' => ∃ g c', e = .returned (.slice (some ⟨g, 0, none⟩) l c') ∧ Wds w' (some ⟨g, 0, none⟩) l f ∧ w.heap.size ≤ g ∧ Below w.heap.size w w' := by
  obtain ⟨b, off, rfl, hb, hc⟩ := h.2 hl
  have HC := Lib.hid hc
  have HU := Lib.hid h.1
  clear hc h
  obtain ⟨i, hi, hz, hs, hby⟩ := info_parts Tryd.info59
  have q61 : ∀ (w : World) (a : Option Addr) (n c n' c' : Nat), (binOp .eql 35 (.slice a n c) (.slice none n' c')).run Tryd.prog w = .ok (.bool a.isNone) w := fun w a n c n' c' => Lib.run_eql_slice_nil w _ _ a n c n' c' Tryd.underlying35
  go_enter Tryd.func80, Tryd.ntmps80
  go_wp2_with (at_builtin; refine wpList_append_lies _ rfl (.tmp 5) (.tmp 6) 35 rfl w.heap.size 59 i (.int .u64 0) 1 8 Tryd.underlying35 hi hz hs hby rfl (by decide) _ 0 [] rfl (World.ownsRow_made w #[] 0 (Nat.le_refl _) (Nat.zero_le _) rfl) ⟨b, off, none⟩ l c (wvals f l) rfl ?q1 ?q2 ?q3 hl ?q4 ?q5 ?q6 _ rfl ?_)
  case q1 => simp [wvals]
  case q2 =>
    intro j u hj
    have hjl : j < l := by
      have := (List.getElem?_eq_some_iff.1 hj).1
      simpa [wvals] using this
    have hadd : (⟨b, off, none⟩ : Addr).add j = ⟨b, off + j, none⟩ := by unfold Addr.add; split <;> simp_all
    rw [hadd, World.cell?_alloc_past _ _ _ hb, HC.out j hjl]
    simpa [wvals, hjl] using hj
  case q3 => intro u hu; obtain ⟨x, _, rfl⟩ := List.mem_map.1 hu; rfl
  case q4 => unfold maxLen; omega
  case q5 => omega
  case q6 => simp
  intro g cap w1 hown hgrow hat hlt
  go_wp2
  go_ret
  refine ⟨g, cap, by simp, ⟨HU.out, fun _ => ⟨g, 0, rfl, hlt, fun k hk => ?_⟩⟩, ?_, ((Below.refl _ w).alloc (Nat.le_refl _) _).grown hgrow (by simp) (by intro k hk; simp [Value.ownBlock] at hk; omega)⟩
  · have := hown.cellAt k (by omega)
    rw [Nat.zero_add, this]
    simp [wvals, hk]
  · rcases hat with h | h
    · simp [Value.ownBlock] at h; omega
    · rw [h]; simp
theorem closure_err (A : Option Addr) (n c : Nat) (R : Nat → RowD) (w : World) (h : Rel w A n R) (hn : n ≤ 1000000) (hv : ¬ VRel n R) :
    Calls Tryd.prog 49 #[.agg #[.slice A n c]] w (RelErr w 1) := by
  have HH := Lib.hid h; clear h
  have HV := Lib.hid hv; clear hv
  have b0 : Below w.heap.size w ((w.alloc (.cells #[.slice A n c] 24)).alloc (.cells #[.slice none 0 0] 24)) := ((Below.refl _ _).alloc (Nat.le_refl _) _).alloc (by simp) _
  have r0 := (relAt_new w A n c).alloc (.cells #[.slice none 0 0] 24)
  have r1 := relAt_new (w.alloc (.cells #[.slice A n c] 24)) none 0 0
  have hs : (w.alloc (.cells #[.slice A n c] 24)).heap.size = w.heap.size + 1 := by simp
  rw [hs] at r1
  clear hs
  have c0 := r0.c0
  go_enter Tryd.func49, Tryd.ntmps49
  go_wp2_with fail
  refine (rvalid_no A n c R _ (HH.out.below b0) hn HV.out).mono ?_; rintro e w2 ⟨rfl, b2⟩
  have r2 := r1.below b2
  have B2 := below_next b0 b2
  have d0 := r2.c0
  have f0 := r2.free 0
  go_wp2_with fail
  refine bodyPost_ret (v := .tuple #[.agg #[.slice none 0 0], .int .i64 1]) (by simp [results, Tryd.results49, go_sem, d0]) rfl ?_
  exact ⟨rfl, B2.setCell (p := ⟨w.heap.size + 1, 0, none⟩) (by show w.heap.size ≤ w.heap.size + 1; omega) _⟩
theorem bt_or (f g : Nat → Nat) (j : Nat) : bt (comb orW f g) j = (bt f j || bt g j) := by
  unfold bt comb orW
  rw [Nat.testBit_or]
theorem vld_or2 {N : Int} {m : Nat} {f g : Nat → Nat} (hf : Vld N m f) (hg : Vld N m g) : Vld N m (comb orW f g) :=
  ⟨hf.1, hf.2.1, hf.2.2.1, fun i h1 h2 => by rw [bt_or, hf.2.2.2 i h1 h2, hg.2.2.2 i h1 h2]; rfl⟩
theorem u64_or2 {m : Nat} {f g : Nat → Nat} (hf : U64 f m) (hg : U64 g m) : U64 (comb orW f g) m := fun k hk => or_u64 (hf k hk) (hg k hk)
def RowsOf (n : Nat) (R : Nat → RowD) (T : Nat → Nat → Bool) : Prop := ∀ i, i < n → VRow n (R i) ∧ ∀ j, j < n → bt (R i).f j = T i j
set_option maxRecDepth 100000 in
set_option maxHeartbeats 8000000 in
theorem closure_ok (A : Option Addr) (n c : Nat) (R : Nat → RowD) (w : World) (h : Rel w A n R) (hv : VRel n R) :
    Calls Tryd.prog 49 #[.agg #[.slice A n c]] w (RelOk w n (clo n (mat R))) := by
  have HH := Lib.hid h; clear h
  have hn := hv.1
  have HV := Lib.hid hv; clear hv
  have b0 : Below w.heap.size w ((w.alloc (.cells #[.slice A n c] 24)).alloc (.cells #[.slice none 0 0] 24)) := ((Below.refl _ _).alloc (Nat.le_refl _) _).alloc (by simp) _
  have r0 := (relAt_new w A n c).alloc (.cells #[.slice none 0 0] 24)
  have r1 := relAt_new (w.alloc (.cells #[.slice A n c] 24)) none 0 0
  have hs : (w.alloc (.cells #[.slice A n c] 24)).heap.size = w.heap.size + 1 := by simp
  rw [hs] at r1
  clear hs
  have c0 := r0.c0
  go_enter Tryd.func49, Tryd.ntmps49
  go_wp2_with fail
  refine (rvalid_yes A n c R _ (HH.out.below b0) HV.out).mono ?_; rintro e w2 ⟨rfl, b2⟩
  have r2 := r0.below b2
  have q2 := r1.below b2
  have B2 := below_next b0 b2
  have hmk := make_rows n (by omega)
  clear r0 r1 b0 b2 c0
  have c0 := r2.c0
  have c0' := (r2.alloc (.cells (madeCells #[.int .i64 0, .slice none 0 0] (n * 2)) 37)).c0
  go_wp2_with fail
  clear hmk c0 c0'
  have hR := rows_made w2 n
  have bR : Below w2.heap.size w2 (w2.alloc (.cells (madeCells #[.int .i64 0, .slice none 0 0] (n * 2)) 37)) := (Below.refl _ _).alloc (Nat.le_refl _) _
  have hT0 : Hid (∀ k, k < 0 → VRow n ((fun _ => row0) k) ∧ ∀ j, j < n → bt ((fun _ => row0) k).f j = mat R k j) := fun k hk => absurd hk (Nat.not_lt_zero _)
  go_loopw [5, 6, 20] (fun _ _ i wr => ∃ (D : Nat) (S : Nat → RowD), D ≤ n ∧ i = .int .i64 D ∧ Rows wr w2.heap.size n S ∧ Hid (∀ k, k < D → VRow n (S k) ∧ ∀ j, j < n → bt (S k).f j = mat R k j) ∧ Below w2.heap.size w2 wr) (fun _ _ i _ => n - (intOf i).toNat)
  case atStart => exact ⟨0, _, by omega, rfl, hR, hT0, bR⟩
  case round =>
    clear hR hT0 bR
    obtain ⟨D, S, hD, rfl, hR, hT0, b2⟩ := hrel
    by_cases hlt : D < n
    · obtain ⟨b, off, rfl, hbl, hcz⟩ := (HH.out.below (below_next B2 b2)) (by omega)
      obtain ⟨x0, x1, x2⟩ := hcz D hlt
      have hvr := HV.out.2 D hlt
      have hl1 : (R D).l = (n + 63) / 64 := HV.out.l hlt
      have hl0 : 0 < (R D).l := by omega
      have hl2 : (R D).l ≤ 1000 := by omega
      have hN : (R D).N = n := hvr.1
      rw [hN] at x0
      have HVR : Hid (∀ g c', VRow n ⟨n, some ⟨g, 0, none⟩, (R D).l, c', (R D).f⟩ ∧ ∀ j, j < n → bt (R D).f j = mat R D j) := fun g c' => ⟨⟨rfl, hvr.2⟩, fun j _ => rfl⟩
      clear hcz hl1 hN hvr
      have bA : Below wr.heap.size wr (wr.alloc (.cells #[.int .i64 n, .slice (R D).A (R D).l (R D).c] 37)) := (Below.refl _ _).alloc (Nat.le_refl _) _
      have X2 := Lib.hid (x2.below bA)
      have hRA := hR.below bA
      have BA := below_next b2 bA
      have sA := setAt_new wr n (R D).A (R D).l (R D).c
      have hcl : Hid (∀ w', Wds w' (R D).A (R D).l (R D).f → Calls Tryd.prog 80 #[.slice (R D).A (R D).l (R D).c] w' fun e w1 => ∃ g c', e = .returned (.slice (some ⟨g, 0, none⟩) (R D).l c') ∧ Wds w1 (some ⟨g, 0, none⟩) (R D).l (R D).f ∧ w'.heap.size ≤ g ∧ Below w'.heap.size w' w1) := fun w' h' => clone_words _ _ _ _ w' hl0 hl2 h'
      have d0 := sA.c0
      have d1 := sA.c1
      generalize (R D).A = A1 at *
      generalize (R D).l = l1 at *
      generalize (R D).c = c1 at *
      generalize (R D).f = ff at *
      go_wp2_with fail
      go_region_with (go_at_call 80; with_reducible refine (hcl.out _ X2.out.drew).mono ?_; rintro e w3 ⟨g3, c3, rfl, hw3, hg3, b3⟩; have bc3 := below_next (Below.refl _ _).drew b3; have hR3 := hRA.below bc3; have e0 := (sA.below bc3).c0; have e1 := (sA.below bc3).c1; have z0 := hR3.blk.cell (i := D * 2) (by omega); have z1 := hR3.blk.cell (i := D * 2 + 1) (by omega); have f0 := hR3.blk.frozen (D * 2); have f1 := hR3.blk.frozen (D * 2 + 1))
      all_goals
        have hgl := hRA.lt
        have hg3' : w2.heap.size < g3 := Nat.lt_of_lt_of_le hgl hg3
        have hR4 := hR3.set D ⟨n, some ⟨g3, 0, none⟩, l1, c3, ff⟩ hw3 (fun a ha => by injection ha with ha; subst ha; exact hg3')
        have B4 := ((below_next BA bc3).setCell (p := ⟨w2.heap.size, D * 2, none⟩) (Nat.le_refl _) (.int .i64 n)).setCell (p := ⟨w2.heap.size, D * 2 + 1, none⟩) (Nat.le_refl _) (.slice (some ⟨g3, 0, none⟩) l1 c3)
        have HU : Hid (∀ k, k < D + 1 → VRow n (upd S D ⟨n, some ⟨g3, 0, none⟩, l1, c3, ff⟩ k) ∧ ∀ j, j < n → bt (upd S D ⟨n, some ⟨g3, 0, none⟩, l1, c3, ff⟩ k).f j = mat R k j) := fun k hk => by
          unfold upd
          by_cases e : k = D
          · subst e; rw [if_pos rfl]; exact HVR.out g3 c3
          · rw [if_neg e]; exact hT0.out k (by omega)
        clear hR3 e0 e1 z0 z1 f0 f1 hRA sA BA bc3 b3 hR
        go_wp2_with fail
        go_roundw
        case rel => exact ⟨D + 1, _, by omega, by go_num, hR4, HU, B4⟩
        case measure => simp [intOf]; omega
    · obtain rfl : D = n := by omega
      obtain ⟨W1, rfl⟩ : ∃ W1, W1 = wr := ⟨_, rfl⟩
      have hT1 : Hid (RowsOf D S (wouter (mat R) D 0)) := fun i hi => hT0.out i hi
      clear hT0
      obtain ⟨m, hm⟩ : ∃ m, m = (D + 63) / 64 := ⟨_, rfl⟩
      have HM := Lib.hid hm
      have hm9 : m ≤ 9 := by omega
      clear hm
      go_wp2_with fail
      go_loopw [7, 8, 37] (fun _ _ i wr => ∃ (K : Nat) (S : Nat → RowD), K ≤ D ∧ i = .int .i64 K ∧ Rows wr w2.heap.size D S ∧ Hid (RowsOf D S (wouter (mat R) D K)) ∧ Below w2.heap.size w2 wr) (fun _ _ i _ => D - (intOf i).toNat)
      case atStart => exact ⟨0, S, by omega, rfl, hR, hT1, b2⟩
      case round =>
        clear hR hT1 b2
        obtain ⟨K, S, hK, rfl, hR, hT1, b2⟩ := hrel
        by_cases hKn : K < D
        · have hT2 : Hid (RowsOf D S (winner (wouter (mat R) D K) K 0)) := hT1
          clear hT1
          go_wp2_with fail
          go_loopw [8, 42] (fun _ i wr => ∃ (I : Nat) (S : Nat → RowD), I ≤ D ∧ i = .int .i64 I ∧ Rows wr w2.heap.size D S ∧ Hid (RowsOf D S (winner (wouter (mat R) D K) K I)) ∧ Below w2.heap.size w2 wr) (fun _ i _ => D - (intOf i).toNat)
          case atStart => exact ⟨0, S, by omega, rfl, hR, hT2, b2⟩
          case round =>
            clear hR hT2 b2
            obtain ⟨I, S, hI, rfl, hR, hT2, b2⟩ := hrel
            by_cases hIn : I < D
            · obtain ⟨v1, t1⟩ := hT2.out I hIn
              obtain ⟨v2, t2⟩ := hT2.out K hKn
              have z0 := hR.c0 hIn
              have z1 := hR.c1 hIn
              have y0 := hR.c0 hKn
              have y1 := hR.c1 hKn
              have w1 := (hR.wds I hIn).1
              have w3 := (hR.wds K hKn).1
              have hstep : ∀ a j, winner (wouter (mat R) D K) K (I + 1) a j = if a = I ∧ winner (wouter (mat R) D K) K I I K = true then winner (wouter (mat R) D K) K I I j || winner (wouter (mat R) D K) K I K j else winner (wouter (mat R) D K) K I a j := fun a j => rfl
              have hb := t1 K hKn
              have hSI : Hid (∀ r, RowsOf D S (winner (wouter (mat R) D K) K I) → VRow D r → (∀ j, j < D → bt r.f j = (winner (wouter (mat R) D K) K (I + 1)) I j) → (∀ a, a < D → a ≠ I → ∀ j, (winner (wouter (mat R) D K) K (I + 1)) a j = (winner (wouter (mat R) D K) K I) a j) → RowsOf D (upd S I r) (winner (wouter (mat R) D K) K (I + 1))) := fun r h1 h2 h3 h4 a ha => by
                unfold upd
                by_cases e : a = I
                · subst e; rw [if_pos rfl]; exact ⟨h2, h3⟩
                · rw [if_neg e]; exact ⟨(h1 a ha).1, fun j hj => ((h1 a ha).2 j hj).trans (h4 a ha e j).symm⟩
              have hSame : Hid ((winner (wouter (mat R) D K) K I) I K = false → RowsOf D S (winner (wouter (mat R) D K) K (I + 1))) := fun hf a ha => ⟨(hT2.out a ha).1, fun j hj => by
                rw [(hT2.out a ha).2 j hj, hstep a j, if_neg (fun h => by rw [hf] at h; cases h.2)]⟩
              have hNew : Hid ((winner (wouter (mat R) D K) K I) I K = true → ∀ f1 f2 : Nat → Nat, (∀ j, j < D → bt f1 j = (winner (wouter (mat R) D K) K I) I j) → (∀ j, j < D → bt f2 j = (winner (wouter (mat R) D K) K I) K j) → ∀ j, j < D → bt (comb orW f1 f2) j = (winner (wouter (mat R) D K) K (I + 1)) I j) := fun ht f1 f2 h1 h2 j hj => by
                rw [bt_or, h1 j hj, h2 j hj, hstep I j, if_pos ⟨rfl, ht⟩]
              have hOld : Hid (∀ a, a < D → a ≠ I → ∀ j, (winner (wouter (mat R) D K) K (I + 1)) a j = (winner (wouter (mat R) D K) K I) a j) := fun a _ hne j => by rw [hstep a j, if_neg (fun h => hne h.1)]
              clear hstep
              generalize S I = r1 at *
              generalize S K = r2 at *
              obtain ⟨N1, A1, l1, c1, f1⟩ := r1
              obtain ⟨N2, A2, l2, c2, f2⟩ := r2
              obtain ⟨e1, u1⟩ := v1
              obtain ⟨e2, u2⟩ := v2
              replace e1 : N1 = D := e1
              replace e2 : N2 = D := e2
              subst e1 e2
              have el1 : l1 = m := by have := u1.2.2.1; have h2 := HM.out; simp at this; omega
              have el2 : l2 = m := by have := u2.2.2.1; have h2 := HM.out; simp at this; omega
              subst el1
              subst el2
              have U1 : Hid (Vld D l2 f1) := u1
              have U2 : Hid (Vld D l2 f2) := u2
              have W1' : Hid (Wds wr A1 l2 f1) := w1
              have W2' : Hid (Wds wr A2 l2 f2) := w3
              have TA' : Hid (∀ j, j < D → bt f1 j = (winner (wouter (mat R) D K) K I) I j) := t1
              have TB' : Hid (∀ j, j < D → bt f2 j = (winner (wouter (mat R) D K) K I) K j) := t2
              replace hb : bt f1 K = (winner (wouter (mat R) D K) K I) I K := hb
              replace z0 : wr.cell? ⟨w2.heap.size, I * 2, none⟩ = some (.int .i64 D) := z0
              replace z1 : wr.cell? ⟨w2.heap.size, I * 2 + 1, none⟩ = some (.slice A1 l2 c1) := z1
              replace y0 : wr.cell? ⟨w2.heap.size, K * 2, none⟩ = some (.int .i64 D) := y0
              replace y1 : wr.cell? ⟨w2.heap.size, K * 2 + 1, none⟩ = some (.slice A2 l2 c2) := y1
              clear u1 u2 w1 w3 t1 t2
              cases hbt : (winner (wouter (mat R) D K) K I) I K
              · rw [hbt] at hb
                have HB := Lib.hid hb
                have HBT := Lib.hid hbt
                clear hb hbt
                go_wp2_with fail
                refine (has_in D K A1 l2 c1 f1 false _ W1'.out U1.out hKn HB.out).mono ?_; rintro e w4 ⟨rfl, b4⟩
                go_wp2_with fail
                go_roundw
                case rel => exact ⟨I + 1, S, by omega, by go_num, hR.below b4, hSame.out HBT.out, below_next b2 b4⟩
                case measure => simp [intOf]; omega
              · rw [hbt] at hb
                have HB := Lib.hid hb
                have HBT := Lib.hid hbt
                clear hb hbt
                have hun : Hid (∀ w', Wds w' A1 l2 f1 → Wds w' A2 l2 f2 → Calls Tryd.prog 71 #[.agg #[.int .i64 D, .slice A1 l2 c1], .agg #[.int .i64 D, .slice A2 l2 c2]] w' (SetOk w' D l2 (comb orW f1 f2))) := fun w' h1 h2 => unionB_any D A1 A2 l2 c1 c2 f1 f2 w' h1 h2 U1.out U2.out
                go_wp2_with fail
                refine (has_in D K A1 l2 c1 f1 true _ W1'.out U1.out hKn HB.out).mono ?_; rintro e w4 ⟨rfl, b4⟩
                have hR4 := hR.below b4
                have B4 := below_next b2 b4
                have k0 := (b4.cell (p := ⟨w2.heap.size, I * 2, none⟩) hR.lt).trans z0
                have k1 := (b4.cell (p := ⟨w2.heap.size, I * 2 + 1, none⟩) hR.lt).trans z1
                have k2 := (b4.cell (p := ⟨w2.heap.size, K * 2, none⟩) hR.lt).trans y0
                have k3 := (b4.cell (p := ⟨w2.heap.size, K * 2 + 1, none⟩) hR.lt).trans y1
                have W1'' := Lib.hid (W1'.out.below b4)
                have W2'' := Lib.hid (W2'.out.below b4)
                clear z0 z1 y0 y1 W1' W2' hR b2 b4
                go_wp2_with fail
                go_region_with (go_at_call 71; (with_reducible refine (hun.out _ W1''.out.drew W2''.out.drew).mono ?_); rintro e w5 ⟨g5, rfl, hg5, hrow5, b5⟩; have bc5 := below_next (Below.refl _ _).drew b5; have hR5 := hR4.below bc5; have e0 := hR5.blk.cell (i := I * 2) (by omega); have e1 := hR5.blk.cell (i := I * 2 + 1) (by omega); have z0 := hR5.blk.frozen (I * 2); have z1 := hR5.blk.frozen (I * 2 + 1))
                all_goals
                  have hg5' : w2.heap.size < g5 := Nat.lt_of_lt_of_le hR4.lt hg5
                  have hR6 := hR5.set I ⟨D, some ⟨g5, 0, none⟩, l2, l2, comb orW f1 f2⟩ (row_wds hrow5 (u64_or2 W1''.out.1 W2''.out.1)) (fun a ha => by injection ha with ha; subst ha; exact hg5')
                  have B6 := ((below_next B4 bc5).setCell (p := ⟨w2.heap.size, I * 2, none⟩) (Nat.le_refl _) (.int .i64 D)).setCell (p := ⟨w2.heap.size, I * 2 + 1, none⟩) (Nat.le_refl _) (.slice (some ⟨g5, 0, none⟩) l2 l2)
                  have hT6 := hSI.out ⟨D, some ⟨g5, 0, none⟩, l2, l2, comb orW f1 f2⟩ hT2.out ⟨rfl, vld_or2 U1.out U2.out⟩ (hNew.out HBT.out _ _ TA'.out TB'.out) hOld.out
                  have HT6 := Lib.hid hT6
                  clear hR4 B4 k0 k1 k2 k3 W1'' W2'' hR5 bc5 b5 hrow5 e0 e1 z0 z1 hT6
                  go_wp2_with fail
                  go_roundw
                  case rel => exact ⟨I + 1, _, by omega, by go_num, hR6, HT6, B6⟩
                  case measure => simp [intOf]; omega
            · obtain rfl : I = D := by omega
              go_wp2_with fail
              go_roundw
              case rel => exact ⟨K + 1, S, by omega, by go_num, hR, hT2, b2⟩
              case measure => simp [intOf]; omega
        · obtain rfl : K = D := by omega
          have q3 := q2.below b2
          have d0 := q3.c0
          have f0 := q3.free 0
          have hqw := q2.lt
          have B3 := (below_next B2 b2).setCell (p := ⟨w.heap.size + 1, 0, none⟩) (by show w.heap.size ≤ w.heap.size + 1; omega) (.slice (some ⟨w2.heap.size, 0, none⟩) K K)
          have hR3 := hR.far (q := ⟨w.heap.size + 1, 0, none⟩) hqw (.slice (some ⟨w2.heap.size, 0, none⟩) K K)
          go_wp2_with fail
          refine bodyPost_ret (v := .tuple #[.agg #[.slice (some ⟨w2.heap.size, 0, none⟩) K K], .int .i64 0]) (by simp [results, Tryd.results49, go_sem, d0]) rfl ?_
          exact ⟨_, _, S, rfl, hR3.rel, hR3.fresh (by omega), ⟨hn, fun k hk => (hT1.out k hk).1⟩, fun i hi j hj => (hT1.out i hi).2 j hj, B3⟩
end Go.Proofs.YtakjdihhbndcnaaDoor
