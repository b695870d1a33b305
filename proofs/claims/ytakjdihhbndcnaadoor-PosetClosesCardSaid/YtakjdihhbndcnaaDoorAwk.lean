/- The example of the chapter holds. -/
import Derived.Test.YtakjdihhbndcnaaDoorAwM
namespace Go.Proofs.YtakjdihhbndcnaaDoor
open Go.RowKit
theorem have_later {α G : Prop} (main : α → G) (suf : α) : G := main suf
theorem bnew (w : World) (o : Obj) : Below w.heap.size w (w.alloc o) := (Below.refl _ _).alloc (Nat.le_refl _) o
set_option linter.unusedSimpArgs false in
set_option maxRecDepth 100000 in
set_option maxHeartbeats 8000000 in
theorem awake_any (w : World) (hT : Tab w) : Calls Tryd.prog 11 #[] w fun e w' => e = .returned (.bool true) ∧ Below w.heap.size w w' := by
  go_enter Tryd.func11, Tryd.ntmps11
  go_wp2_with fail
  refine (ls12 _ _ (lk_new rfl)).mono ?_; rintro e w1 ⟨g0, rfl, hg0, hr0, b1⟩
  have B1 := below_next (bnew w _) b1
  clear b1
  go_wp2_with fail
  refine (ls2 _ _ (lk_new rfl)).mono ?_; rintro e w2 ⟨g1, rfl, hg1, hr1, b2⟩
  have bb := below_next (bnew w1 _) b2
  have B2 := below_next B1 bb
  have hr02 := row_below hr0 bb
  clear b2 bb hr0 B1
  go_wp2_with fail
  refine (ls0 _).mono ?_; rintro e w3 ⟨g2, rfl, hg2, hr2, b3⟩
  have B3 := below_next B2 b3
  have hr03 := row_below hr02 b3
  have hr13 := row_below hr1 b3
  clear b3 hr02 hr1 B2
  go_wp2_with fail
  refine (ls2 _ _ (lk_new rfl)).mono ?_; rintro e w4 ⟨g3, rfl, hg3, hr3, b4⟩
  have bb := below_next (bnew w3 _) b4
  have B4 := below_next B3 bb
  have hr04 := row_below hr03 bb
  have hr14 := row_below hr13 bb
  have hr24 := row_below hr2 bb
  clear b4 bb hr03 hr13 hr2 B3
  obtain ⟨o5, ho5⟩ : ∃ o, o = Obj.cells #[.int .i64 4, .slice (some ⟨g0, 0, none⟩) 1 1, .int .i64 4, .slice (some ⟨g1, 0, none⟩) 1 1, .int .i64 4, .slice (some ⟨g2, 0, none⟩) 1 1, .int .i64 4, .slice (some ⟨g3, 0, none⟩) 1 1] 37 := ⟨_, rfl⟩
  have bo := bnew w4 o5
  have e5 : (w4.alloc o5).heap[w4.heap.size]? = some o5 := heap_alloc_new w4 o5
  rw [ho5] at bo e5
  have hR := rl_rel (row_below hr04 bo) (row_below hr14 bo) (row_below hr24 bo) (row_below hr3 bo) e5
  have bp := bnew (w4.alloc (.cells #[.int .i64 4, .slice (some ⟨g0, 0, none⟩) 1 1, .int .i64 4, .slice (some ⟨g1, 0, none⟩) 1 1, .int .i64 4, .slice (some ⟨g2, 0, none⟩) 1 1, .int .i64 4, .slice (some ⟨g3, 0, none⟩) 1 1] 37)) (.cells #[.slice (some ⟨w4.heap.size, 0, none⟩) 4 4] 24)
  have rp := relAt_new (w4.alloc (.cells #[.int .i64 4, .slice (some ⟨g0, 0, none⟩) 1 1, .int .i64 4, .slice (some ⟨g1, 0, none⟩) 1 1, .int .i64 4, .slice (some ⟨g2, 0, none⟩) 1 1, .int .i64 4, .slice (some ⟨g3, 0, none⟩) 1 1] 37)) (some ⟨w4.heap.size, 0, none⟩) 4 4
  have hsz : (w4.alloc (.cells #[.int .i64 4, .slice (some ⟨g0, 0, none⟩) 1 1, .int .i64 4, .slice (some ⟨g1, 0, none⟩) 1 1, .int .i64 4, .slice (some ⟨g2, 0, none⟩) 1 1, .int .i64 4, .slice (some ⟨g3, 0, none⟩) 1 1] 37)).heap.size = w4.heap.size + 1 := by simp
  rw [hsz] at rp
  have HR := Lib.hid (hR.below bp)
  have B5 := below_next (below_next B4 bo) bp
  have hV : VRel 4 (RL g0 g1 g2 g3 [1, 2] [2] [] [2]) := rl_v _ _ _ _ _ _ _ _ ex_in
  have hM : ∀ i, i < 4 → ∀ j, j < 4 → mat (RL g0 g1 g2 g3 [1, 2] [2] [] [2]) i j = exT i j := fun i _ j _ => rl_mat _ _ _ _ _ _ _ _ i j
  have HP : Hid (POrd 4 (RL g0 g1 g2 g3 [1, 2] [2] [] [2])) := ⟨hV, pok_congr hM ex_pok⟩
  have HM := Lib.hid hM
  clear hr04 hr14 hr24 hr3 bo bp e5 hR hsz ho5 B4 hV hM hg0 hg1 hg2 hg3
  generalize RL g0 g1 g2 g3 [1, 2] [2] [] [2] = R at *
  go_upto_region 2 with fail
  generalize (w4.alloc (.cells #[.int .i64 4, .slice (some ⟨g0, 0, none⟩) 1 1, .int .i64 4, .slice (some ⟨g1, 0, none⟩) 1 1, .int .i64 4, .slice (some ⟨g2, 0, none⟩) 1 1, .int .i64 4, .slice (some ⟨g3, 0, none⟩) 1 1] 37)).alloc (.cells #[.slice (some ⟨w4.heap.size, 0, none⟩) 4 4] 24) = w5 at *
  generalize w4.heap.size = q at *
  have c0 := rp.c0
  have HC := Lib.hid (covers_any (some ⟨q, 0, none⟩) 4 4 R w5 HR.out (by omega) (hT.below B5))
  unfold CovEnd at HC
  go_wp2_with fail
  refine HC.out.mono ?_; rintro e w6 (⟨_, hC⟩ | ⟨hno, _⟩)
  rotate_left
  · exact absurd HP.out hno
  obtain ⟨Ac, cc, Rc, rfl, hRc, _, hVc, hMc, b6⟩ := hC
  have bx := bnew w6 (.cells #[.slice Ac 4 cc] 24)
  have rc := relAt_new w6 Ac 4 cc
  have rp6 := (rp.below b6).below bx
  have B6 := below_next (below_next B5 b6) bx
  have HR6 := Lib.hid ((HR.out.below b6).below bx)
  have HRc := Lib.hid (hRc.below bx)
  have HVc := Lib.hid hVc
  have HMc : Hid (∀ i, i < 4 → ∀ j, j < 4 → mat Rc i j = exC i j) := fun i hi j hj => (hMc i hi j hj).trans ((red_congr HM.out i hi j hj).trans (ex_red i hi j hj))
  clear c0 HC hRc hVc hMc b6 bx rp B5 HR
  go_upto_region 3 with fail
  generalize hpc : w6.heap.size = pc at *
  generalize w6.alloc (.cells #[.slice Ac 4 cc] 24) = w7 at *
  clear hpc
  have c0 := rp6.c0
  have HL := Lib.hid (levels_any (some ⟨q, 0, none⟩) 4 4 R w7 HR6.out (by omega) (hT.below B6))
  unfold LevEnd at HL
  go_wp2_with fail
  refine HL.out.mono ?_; rintro e w8 (⟨_, hL⟩ | ⟨hno, _, _⟩)
  rotate_left
  · exact absurd HP.out hno
  obtain ⟨o, gl, ho, rfl, hgl, hrl, b8⟩ := hL
  have ho2 : o = [0, 1, 3, 2] := by
    rw [order_congr HM.out, ex_order] at ho
    exact (Option.some.inj ho).symm
  subst ho2
  have hrl2 : w8.rowIs gl 3 4 (ivals (gets [0, 1, 2, 0])) := hrl.congr fun j hj => by
    show Value.int .i64 _ = Value.int .i64 _
    rw [lvK_congr HM.out [0, 1, 3, 2] (by decide) 4 (by decide), ex_lev j hj]
  have rp8 := rp6.below b8
  have rc8 := rc.below b8
  have B8 := below_next B6 b8
  have HR8 := Lib.hid (HR6.out.below b8)
  have HRc8 := Lib.hid (HRc.out.below b8)
  clear c0 HL hrl ho b8 rp6 rc B6 HR6 HRc
  have hDL : tl (dwn 4 (mat R) (setF [1])) true 4 = [0, 1] := by
    have e : ∀ i, i < 4 → dwn 4 (mat R) (setF [1]) i = dwn 4 exT (fun k => if k = 0 then 2 else 0) i := dwn_congr HM.out (by
      intro j hj
      refine bool_ext ?_
      rw [setF_bt]
      match j, hj with
      | 0, _ => decide
      | 1, _ => decide
      | 2, _ => decide
      | 3, _ => decide)
    have e2 : tl (dwn 4 (mat R) (setF [1])) true 4 = tl (dwn 4 exT (fun k => if k = 0 then 2 else 0)) true 4 := List.filter_congr fun j hj => by rw [e j (List.mem_range.1 hj)]
    rw [e2]; decide +kernel
  have HD : Hid (∀ u g, Below w8.heap.size w8 u → Wds u (some ⟨g, 0, none⟩) 1 (setF [1]) → Calls Tryd.prog 33 #[.agg #[.slice (some ⟨q, 0, none⟩) 4 4], .agg #[.int .i64 4, .slice (some ⟨g, 0, none⟩) 1 1]] u (fun e w' => ∃ gd, e = .returned (.tuple #[.agg #[.int .i64 4, .slice (some ⟨gd, 0, none⟩) 1 1], .int .i64 0]) ∧ u.heap.size ≤ gd ∧ w'.rowIs gd 59 1 (fun k => .int .u64 (setF [0, 1] k : Nat)) ∧ Below u.heap.size u w')) := fun u g hu hw => by
    have := down_ok (some ⟨q, 0, none⟩) (some ⟨g, 0, none⟩) 4 4 1 R (setF [1]) u (HR8.out.below hu) (hT.below (below_next B8 hu)) HP.out hw (setF_vld (n := 4) (by decide) (by decide))
    rw [hDL] at this
    exact this
  have hss : Hid (∀ w', Below w8.heap.size w8 w' → Below w8.heap.size w8 w' ∧ w'.cell? ⟨q + 1, 0, none⟩ = some (.slice (some ⟨q, 0, none⟩) 4 4)) := fun w' b => ⟨b, (rp8.below b).c0⟩
  clear hDL
  go_upto_region 4 with fail
  go_cut [6, 7] from 27 to 33 (fun x y wx => ∃ pd gd, x = .pointer (some ⟨pd, 0, none⟩) ∧ y = .int .i64 0 ∧ SetAt wx pd 4 (some ⟨gd, 0, none⟩) 1 1 ∧ wx.rowIs gd 59 1 (fun k => .int .u64 (setF [0, 1] k : Nat)) ∧ Below w8.heap.size w8 wx)
  case first =>
    clear HR8 HRc8 HVc HMc HP HM rp8 rc8 hrl2 B8 hT
    go_region_held3 (fun w' => Below w8.heap.size w8 w' ∧ w'.cell? ⟨q + 1, 0, none⟩ = some (.slice (some ⟨q, 0, none⟩) 4 4))
      (first
        | exact hss.out _ (Below.refl _ _).drew
        | exact hss.out _ ((Below.refl _ _).alloc (Nat.le_refl _) _).drew
        | exact hss.out _ (((Below.refl _ _).alloc (Nat.le_refl _) _).alloc (by simp) _).drew
        | exact hss.out _ bw10
        | exact hss.out _ bw9
        | exact hss.out _ (bw10.alloc bw10.size _)
        | exact hss.out _ (bw9.alloc bw9.size _)
        | exact hss.out _ ((bw10.setCell (by first | exact Nat.le_refl _ | exact Nat.le_succ _ | exact hs9) _).setCell (by first | exact Nat.le_refl _ | exact Nat.le_succ _ | exact hs9) _))
      (first
        | (go_at_call 44; refine (ls1 _ _ (by first | exact lk_drew (lk_new (by simp)) | exact lk_drew (lk_old (lk_new (by simp)) (by simp)))).mono ?_; rintro e w9 ⟨g9, rfl, hg9, hr9, b9⟩; have bw9 := below_next (And.left (by assumption)) b9; have hs9 := bw9.size;
            (first
              | (have e4 : w9.heap[w8.heap.size]? = some (.cells #[.int .i64 0, .slice none 0 0] 37 (0, 0)) := lk_bel b9 (lk_drew (lk_old (lk_new rfl) (by simp))) (by first | (simp; done) | (simp; omega)); have z0 := cell_of_row _ _ 0 _ _ _ e4; have z1 := cell_of_row _ _ 1 _ _ _ e4; have y0 := frozen_of_row _ _ 0 _ _ e4; have y1 := frozen_of_row _ _ 1 _ _ e4)
              | (have e4 : w9.heap[w8.heap.size + 1]? = some (.cells #[.int .i64 0, .slice none 0 0] 37 (0, 0)) := lk_bel b9 (lk_drew (lk_new (by simp))) (by first | (simp; done) | (simp; omega)); have z0 := cell_of_row _ _ 0 _ _ _ e4; have z1 := cell_of_row _ _ 1 _ _ _ e4; have y0 := frozen_of_row _ _ 0 _ _ e4; have y1 := frozen_of_row _ _ 1 _ _ e4)
              | skip))
        | (go_at_call 33; refine (HD.out _ g9 (And.left (by assumption)) (by first | exact row_wds hr9 (setF_u64 _ _) | exact (row_wds hr9 (setF_u64 _ _)).below (bnew _ _))).mono ?_; rintro e w10 ⟨gd, rfl, hgd, hrd, b10⟩; have bw10 := below_next (And.left (by assumption)) b10;
            (first
              | (have e5 : w10.heap[w9.heap.size]? = some (.cells #[.int .i64 0, .slice none 0 0] 37 (0, 0)) := lk_bel b10 (lk_new rfl) (by first | (simp; done) | (simp; omega)); have z0 := cell_of_row _ _ 0 _ _ _ e5; have z1 := cell_of_row _ _ 1 _ _ _ e5; have y0 := frozen_of_row _ _ 0 _ _ e5; have y1 := frozen_of_row _ _ 1 _ _ e5)
              | (have e5 := lk_bel b10 e4 (lt_of_block e4); have z0 := cell_of_row _ _ 0 _ _ _ e5; have z1 := cell_of_row _ _ 1 _ _ _ e5; have y0 := frozen_of_row _ _ 0 _ _ e5; have y1 := frozen_of_row _ _ 1 _ _ e5)
              | skip)))
    all_goals
      go_wp2_with fail
      go_meet
    all_goals
      first
        | exact ⟨w10.heap.size, gd, rfl, rfl, setAt_new w10 4 (some ⟨gd, 0, none⟩) 1 1, row_below hrd (bnew _ _), bw10.alloc bw10.size _⟩
        | (have hne : gd ≠ w8.heap.size := (by have h1 := lt_of_block e4; omega)
           exact ⟨w8.heap.size, gd, rfl, rfl, setAt_put e5, (hrd.setOther (by exact hne) _).setOther (by exact hne) _, (bw10.setCell (by exact Nat.le_refl _) _).setCell (by exact Nat.le_refl _) _⟩)
        | (have hne : gd ≠ w8.heap.size + 1 := (by have h1 := lt_of_block e4; omega)
           exact ⟨w8.heap.size + 1, gd, rfl, rfl, setAt_put e5, (hrd.setOther (by exact hne) _).setOther (by exact hne) _, (bw10.setCell (by exact Nat.le_succ _) _).setCell (by exact Nat.le_succ _) _⟩)
        | (have hne : gd ≠ w9.heap.size := (by have h1 := hgd; simp at h1; omega)
           exact ⟨w9.heap.size, gd, rfl, rfl, setAt_put e5, (hrd.setOther (by exact hne) _).setOther (by exact hne) _, (bw10.setCell (by exact hs9) _).setCell (by exact hs9) _⟩)
  case rest =>
    obtain ⟨pd, gd, rfl, rfl, hd, hrd, b9⟩ := hcut
    have B9 := below_next B8 b9
    have HRc9 := Lib.hid (HRc8.out.below b9)
    have HRp9 := Lib.hid (HR8.out.below b9)
    have rp9 := rp8.below b9
    have rc9 := rc8.below b9
    have HL9 : Hid (∀ u, Below wc.heap.size wc u → Ints u (some ⟨gl, 0, none⟩) 4 (gets [0, 1, 2, 0])) := Lib.hid fun u hu => fun _ => by
      have hr := row_below (row_below hrl2 b9) hu
      exact ⟨gl, 0, rfl, hr.lt, fun k hk => by rw [Nat.zero_add]; exact hr.cell hk⟩
    have HVa : Hid (∀ u, Below wc.heap.size wc u → Calls Tryd.prog 14 #[.agg #[.slice (some ⟨q, 0, none⟩) 4 4]] u fun e w' => e = .returned (.bool true) ∧ Below u.heap.size u w') := Lib.hid fun u hu => pvalid_any (some ⟨q, 0, none⟩) 4 4 R true u (HRp9.out.below hu) (by omega) (hT.below (below_next B9 hu)) ⟨fun _ => HP.out, fun _ => rfl⟩
    have HSm : Hid (∀ (u : World) (Bq h1 h2 h3 h4 : Nat), Below wc.heap.size wc u → u.rowIs h1 59 1 (fun k => .int .u64 (setF [1] k : Nat)) → u.rowIs h2 59 1 (fun k => .int .u64 (setF [2] k : Nat)) → u.rowIs h3 59 1 (fun k => .int .u64 (setF [] k : Nat)) → u.rowIs h4 59 1 (fun k => .int .u64 (setF [2] k : Nat)) → u.heap[Bq]? = some (.cells #[.int .i64 4, .slice (some ⟨h1, 0, none⟩) 1 1, .int .i64 4, .slice (some ⟨h2, 0, none⟩) 1 1, .int .i64 4, .slice (some ⟨h3, 0, none⟩) 1 1, .int .i64 4, .slice (some ⟨h4, 0, none⟩) 1 1] 37 (0, 0)) →
        Calls Tryd.prog 19 #[.agg #[.slice Ac 4 cc], .agg #[.slice (some ⟨Bq, 0, none⟩) 4 4]] u fun e w' => e = .returned (.bool true) ∧ Below u.heap.size u w') := Lib.hid fun u Bq h1 h2 h3 h4 hu r1 r2 r3 r4 hb =>
      psame_yes Ac (some ⟨Bq, 0, none⟩) 4 cc 4 Rc (RL h1 h2 h3 h4 [1] [2] [] [2]) u (HRc9.out.below hu) (rl_rel r1 r2 r3 r4 hb) HVc.out (rl_v _ _ _ _ _ _ _ _ exC_in) (fun i hi j hj => (HMc.out i hi j hj).trans (rl_mat _ _ _ _ _ _ _ _ i j).symm)
    have HEq : Hid (∀ (u : World) (B : Nat), Below wc.heap.size wc u → u.heap[B]? = some (.cells #[.int .i64 0, .int .i64 1, .int .i64 2, .int .i64 0] 3 (0, 0)) → Calls Tryd.prog 31 #[.slice (some ⟨gl, 0, none⟩) 4 4, .slice (some ⟨B, 0, none⟩) 4 4] u fun e w' => e = .returned (.bool true) ∧ Below u.heap.size u w') := Lib.hid fun u B hu hb =>
      equal_ints (some ⟨gl, 0, none⟩) (some ⟨B, 0, none⟩) 4 4 4 (gets [0, 1, 2, 0]) u (HL9.out u hu) (ints_at 4 _ hb fun k hk => by match k, hk with | 0, _ => rfl | 1, _ => rfl | 2, _ => rfl | 3, _ => rfl) (by omega)
    have HSd : Hid (∀ (u : World) (g : Nat), Below wc.heap.size wc u → u.rowIs g 59 1 (fun k => .int .u64 (setF [0, 1] k : Nat)) → Calls Tryd.prog 28 #[.agg #[.int .i64 4, .slice (some ⟨gd, 0, none⟩) 1 1], .agg #[.int .i64 4, .slice (some ⟨g, 0, none⟩) 1 1]] u fun e w' => e = .returned (.bool true) ∧ Below u.heap.size u w') := Lib.hid fun u g hu hr =>
      refSame_any 4 (some ⟨gd, 0, none⟩) (some ⟨g, 0, none⟩) 1 1 1 (setF [0, 1]) (setF [0, 1]) 1 true u (row_wds (row_below hrd hu) (setF_u64 _ _)) (row_wds hr (setF_u64 _ _)) (by omega) (Nat.le_refl _) (fun _ _ => rfl) (Or.inl ⟨rfl, rfl⟩)
    have hss2 : Hid (∀ w', Below wc.heap.size wc w' → Below wc.heap.size wc w' ∧ w'.cell? ⟨q + 1, 0, none⟩ = some (.slice (some ⟨q, 0, none⟩) 4 4) ∧ w'.cell? ⟨pc, 0, none⟩ = some (.slice Ac 4 cc) ∧ w'.cell? ⟨pd, 0, none⟩ = some (.int .i64 4) ∧ w'.cell? ⟨pd, 1, none⟩ = some (.slice (some ⟨gd, 0, none⟩) 1 1)) := Lib.hid fun w' b => ⟨b, (rp9.below b).c0, (rc9.below b).c0, (hd.below b).c0, (hd.below b).c1⟩
    have hal : Hid (∀ (X : World) (o : Obj), (Below wc.heap.size wc X ∧ X.cell? ⟨q + 1, 0, none⟩ = some (.slice (some ⟨q, 0, none⟩) 4 4) ∧ X.cell? ⟨pc, 0, none⟩ = some (.slice Ac 4 cc) ∧ X.cell? ⟨pd, 0, none⟩ = some (.int .i64 4) ∧ X.cell? ⟨pd, 1, none⟩ = some (.slice (some ⟨gd, 0, none⟩) 1 1)) → (Below wc.heap.size wc (X.alloc o) ∧ (X.alloc o).cell? ⟨q + 1, 0, none⟩ = some (.slice (some ⟨q, 0, none⟩) 4 4) ∧ (X.alloc o).cell? ⟨pc, 0, none⟩ = some (.slice Ac 4 cc) ∧ (X.alloc o).cell? ⟨pd, 0, none⟩ = some (.int .i64 4) ∧ (X.alloc o).cell? ⟨pd, 1, none⟩ = some (.slice (some ⟨gd, 0, none⟩) 1 1))) := Lib.hid fun X o h => hss2.out _ (h.1.alloc h.1.size o)
    clear hss HD HR8 HRc8 HVc HMc HP HM rp8 rc8 hrl2 B8 hT b9 HRc9 HRp9 rp9 rc9 hd hrd HL9
    go_wp2_with fail
    refine wp_region_noPanic ?_
    refine wp_region_held_drew (S := (fun w' => Below wc.heap.size wc w' ∧ w'.cell? ⟨q + 1, 0, none⟩ = some (.slice (some ⟨q, 0, none⟩) 4 4) ∧ w'.cell? ⟨pc, 0, none⟩ = some (.slice Ac 4 cc) ∧ w'.cell? ⟨pd, 0, none⟩ = some (.int .i64 4) ∧ w'.cell? ⟨pd, 1, none⟩ = some (.slice (some ⟨gd, 0, none⟩) 1 1))) (by kernel_rfl) (hss2.out _ (Below.refl _ _).drew) (fun hHeld => ?_)
    refine wpAnyH_take (i := 0) (v := ?_) rfl (by kernel_rfl) (by kernel_rfl) (by kernel_rfl) (fun _ _ _ h => h) (Or.inl ⟨by rfl, ?_⟩) (by assumption) ?_
    rotate_left 1
    · intro w hSw
      (try dsimp only at hSw)
      go_simp
      all_goals with_reducible rfl
    try simp only [Act.put, List.setIfInBounds_toArray, List.set_cons_zero, List.set_cons_succ]
    refine wpAnyH_ready (rs := [1]) (by kernel_rfl) (by simp) ?_
    refine AllReadyH.cons rfl (fun K hK => ?_) AllReadyH.nil
    have Sx := hss2.out _ (Below.refl wc.heap.size wc).drew
    go_simp
    (with_reducible refine (HVa.out _ Sx.1).mono ?_)
    rintro e u1 ⟨rfl, b1⟩
    have S1 := hss2.out _ (below_next Sx.1 b1)
    refine hK.out _ _ S1 (fun hHeld => ?_)
    clear hK K hHeld Sx b1  
    try simp only [Act.put, List.setIfInBounds_toArray, List.set_cons_zero, List.set_cons_succ]
    refine wpAnyH_take (i := 2) (v := ?_) rfl (by kernel_rfl) (by kernel_rfl) (by kernel_rfl) (fun _ _ _ h => h) (Or.inl ⟨by rfl, ?_⟩) (by assumption) ?_
    rotate_left 1
    · intro w hSw
      (try dsimp only at hSw)
      go_simp
      all_goals with_reducible rfl
    try simp only [Act.put, List.setIfInBounds_toArray, List.set_cons_zero, List.set_cons_succ]
    refine wpAnyH_take (i := 3) (v := ?_) rfl (by kernel_rfl) (by kernel_rfl) (by kernel_rfl) (fun _ _ _ h => h) (Or.inl ⟨by rfl, ?_⟩) (by assumption) ?_
    rotate_left 1
    · intro w hSw
      (try dsimp only at hSw)
      go_simp
      all_goals with_reducible rfl
    try simp only [Act.put, List.setIfInBounds_toArray, List.set_cons_zero, List.set_cons_succ]
    refine wpAnyH_take (i := 4) (v := ?_) rfl (by kernel_rfl) (by kernel_rfl) (by kernel_rfl) (fun _ _ _ h => h) (Or.inl ⟨by rfl, ?_⟩) (by assumption) ?_
    rotate_left 1
    · intro w hSw
      (try dsimp only at hSw)
      go_simp
      all_goals with_reducible rfl
    try simp only [Act.put, List.setIfInBounds_toArray, List.set_cons_zero, List.set_cons_succ]
    refine wpAnyH_take (i := 5) (v := ?_) rfl (by kernel_rfl) (by kernel_rfl) (by kernel_rfl) (fun _ _ _ h => h) (Or.inl ⟨by rfl, ?_⟩) (by assumption) ?_
    rotate_left 1
    · intro w hSw
      (try dsimp only at hSw)
      go_simp
      all_goals with_reducible rfl
    try simp only [Act.put, List.setIfInBounds_toArray, List.set_cons_zero, List.set_cons_succ]
    refine wpAnyH_take (i := 6) (v := ?_) rfl (by kernel_rfl) (by kernel_rfl) (by kernel_rfl) (fun _ _ _ h => h) (Or.inl ⟨by rfl, ?_⟩) (by assumption) ?_
    rotate_left 1
    · intro w hSw
      (try dsimp only at hSw)
      go_simp
      all_goals with_reducible rfl
    try simp only [Act.put, List.setIfInBounds_toArray, List.set_cons_zero, List.set_cons_succ]
    refine wpAnyH_take (i := 7) (v := ?_) rfl (by kernel_rfl) (by kernel_rfl) (by kernel_rfl) (fun _ _ _ h => h) (Or.inl ⟨by rfl, ?_⟩) (by assumption) ?_
    rotate_left 1
    · intro w hSw
      (try dsimp only at hSw)
      go_simp
      all_goals with_reducible rfl
    try simp only [Act.put, List.setIfInBounds_toArray, List.set_cons_zero, List.set_cons_succ]
    have S00 := S1
    clear hHeld S1
    apply have_later
    intro h_8_9_10_11_12_13_14
    apply have_later
    intro h_8_9_10_11_12_13
    apply have_later
    intro h_8_9_10_11_13
    apply have_later
    intro h_8_9_10_11_12
    apply have_later
    intro h_8_9_10_13
    apply have_later
    intro h_8_9_10_11
    apply have_later
    intro h_8_10_13
    apply have_later
    intro h_8_9_13
    apply have_later
    intro h_8_9_10
    apply have_later
    intro h_10_13
    apply have_later
    intro h_8_13
    apply have_later
    intro h_8_10
    apply have_later
    intro h_8_9
    apply have_later
    intro h_13
    apply have_later
    intro h_10
    apply have_later
    intro h_8
    · skip
      refine wpAnyH_ready (rs := [8, 10, 13]) (by kernel_rfl) (by simp) ?_
      refine AllReadyH.cons rfl (fun K hK => ?_) (AllReadyH.cons rfl (fun K hK => ?_) (AllReadyH.cons rfl (fun K hK => ?_) AllReadyH.nil))
      · go_simp
        have n2 := heap_alloc_new u1 (.cells #[.int .i64 1] 3)
        have bn2 := bnew u1 (.cells #[.int .i64 1] 3)
        have S2 := hal.out u1 (.cells #[.int .i64 1] 3) S00
        refine hK.out _ _ S2 (fun hHeld => ?_)
        clear hK K hHeld   
        try simp only [Act.put, List.setIfInBounds_toArray, List.set_cons_zero, List.set_cons_succ]
        generalize u1.alloc (.cells #[.int .i64 1] 3) = u2 at *
        clear bn2
        generalize u1.heap.size = B8 at *
        revert n2; revert S2; revert u2; revert B8
        exact h_8
      · go_simp
        have n3 := heap_alloc_new u1 (.cells #[.int .i64 2] 3)
        have bn3 := bnew u1 (.cells #[.int .i64 2] 3)
        have S3 := hal.out u1 (.cells #[.int .i64 2] 3) S00
        refine hK.out _ _ S3 (fun hHeld => ?_)
        clear hK K hHeld   
        try simp only [Act.put, List.setIfInBounds_toArray, List.set_cons_zero, List.set_cons_succ]
        generalize u1.alloc (.cells #[.int .i64 2] 3) = u3 at *
        clear bn3
        generalize u1.heap.size = B10 at *
        revert n3; revert S3; revert u3; revert B10
        exact h_10
      · go_simp
        have n4 := heap_alloc_new u1 (.cells #[.int .i64 2] 3)
        have bn4 := bnew u1 (.cells #[.int .i64 2] 3)
        have S4 := hal.out u1 (.cells #[.int .i64 2] 3) S00
        refine hK.out _ _ S4 (fun hHeld => ?_)
        clear hK K hHeld   
        try simp only [Act.put, List.setIfInBounds_toArray, List.set_cons_zero, List.set_cons_succ]
        generalize u1.alloc (.cells #[.int .i64 2] 3) = u4 at *
        clear bn4
        generalize u1.heap.size = B13 at *
        revert n4; revert S4; revert u4; revert B13
        exact h_13
    · intro B8 wz S0 f8
      refine wpAnyH_ready (rs := [9, 10, 13]) (by kernel_rfl) (by simp) ?_
      refine AllReadyH.cons rfl (fun K hK => ?_) (AllReadyH.cons rfl (fun K hK => ?_) (AllReadyH.cons rfl (fun K hK => ?_) AllReadyH.nil))
      · go_simp
        (with_reducible refine (ls1 _ _ f8).mono ?_)
        rintro e u5 ⟨g5, rfl, hg5, rn5, b5⟩
        have S5 := hss2.out _ (below_next S0.1 b5)
        have l8_5 := lk_bel b5 f8 (lt_of_block f8)
        refine hK.out _ _ S5 (fun hHeld => ?_)
        clear hK K hHeld S0 b5 f8 
        try simp only [Act.put, List.setIfInBounds_toArray, List.set_cons_zero, List.set_cons_succ]
        clear hg5
        clear l8_5
        generalize (Value.slice (some ⟨B8, 0, none⟩) 1 1 : Value) = V8
        revert rn5; revert S5; revert u5; revert g5; revert V8
        exact h_8_9
      · go_simp
        have n6 := heap_alloc_new wz (.cells #[.int .i64 2] 3)
        have bn6 := bnew wz (.cells #[.int .i64 2] 3)
        have S6 := hal.out wz (.cells #[.int .i64 2] 3) S0
        have l8_6 := lk_bel bn6 f8 (lt_of_block f8)
        refine hK.out _ _ S6 (fun hHeld => ?_)
        clear hK K hHeld S0 f8 
        try simp only [Act.put, List.setIfInBounds_toArray, List.set_cons_zero, List.set_cons_succ]
        generalize wz.alloc (.cells #[.int .i64 2] 3) = u6 at *
        clear bn6
        generalize wz.heap.size = B10 at *
        revert n6; revert l8_6; revert S6; revert u6; revert B10; revert B8
        exact h_8_10
      · go_simp
        have n7 := heap_alloc_new wz (.cells #[.int .i64 2] 3)
        have bn7 := bnew wz (.cells #[.int .i64 2] 3)
        have S7 := hal.out wz (.cells #[.int .i64 2] 3) S0
        have l8_7 := lk_bel bn7 f8 (lt_of_block f8)
        refine hK.out _ _ S7 (fun hHeld => ?_)
        clear hK K hHeld S0 f8 
        try simp only [Act.put, List.setIfInBounds_toArray, List.set_cons_zero, List.set_cons_succ]
        generalize wz.alloc (.cells #[.int .i64 2] 3) = u7 at *
        clear bn7
        generalize wz.heap.size = B13 at *
        revert n7; revert l8_7; revert S7; revert u7; revert B13; revert B8
        exact h_8_13
    · intro B10 wz S0 f10
      refine wpAnyH_ready (rs := [8, 13]) (by kernel_rfl) (by simp) ?_
      refine AllReadyH.cons rfl (fun K hK => ?_) (AllReadyH.cons rfl (fun K hK => ?_) AllReadyH.nil)
      · go_simp
        have n8 := heap_alloc_new wz (.cells #[.int .i64 1] 3)
        have bn8 := bnew wz (.cells #[.int .i64 1] 3)
        have S8 := hal.out wz (.cells #[.int .i64 1] 3) S0
        have l10_8 := lk_bel bn8 f10 (lt_of_block f10)
        refine hK.out _ _ S8 (fun hHeld => ?_)
        clear hK K hHeld S0 f10 
        try simp only [Act.put, List.setIfInBounds_toArray, List.set_cons_zero, List.set_cons_succ]
        generalize wz.alloc (.cells #[.int .i64 1] 3) = u8 at *
        clear bn8
        generalize wz.heap.size = B8 at *
        revert l10_8; revert n8; revert S8; revert u8; revert B10; revert B8
        exact h_8_10
      · go_simp
        have n9 := heap_alloc_new wz (.cells #[.int .i64 2] 3)
        have bn9 := bnew wz (.cells #[.int .i64 2] 3)
        have S9 := hal.out wz (.cells #[.int .i64 2] 3) S0
        have l10_9 := lk_bel bn9 f10 (lt_of_block f10)
        refine hK.out _ _ S9 (fun hHeld => ?_)
        clear hK K hHeld S0 f10 
        try simp only [Act.put, List.setIfInBounds_toArray, List.set_cons_zero, List.set_cons_succ]
        generalize wz.alloc (.cells #[.int .i64 2] 3) = u9 at *
        clear bn9
        generalize wz.heap.size = B13 at *
        revert n9; revert l10_9; revert S9; revert u9; revert B13; revert B10
        exact h_10_13
    · intro B13 wz S0 f13
      refine wpAnyH_ready (rs := [8, 10]) (by kernel_rfl) (by simp) ?_
      refine AllReadyH.cons rfl (fun K hK => ?_) (AllReadyH.cons rfl (fun K hK => ?_) AllReadyH.nil)
      · go_simp
        have n10 := heap_alloc_new wz (.cells #[.int .i64 1] 3)
        have bn10 := bnew wz (.cells #[.int .i64 1] 3)
        have S10 := hal.out wz (.cells #[.int .i64 1] 3) S0
        have l13_10 := lk_bel bn10 f13 (lt_of_block f13)
        refine hK.out _ _ S10 (fun hHeld => ?_)
        clear hK K hHeld S0 f13 
        try simp only [Act.put, List.setIfInBounds_toArray, List.set_cons_zero, List.set_cons_succ]
        generalize wz.alloc (.cells #[.int .i64 1] 3) = u10 at *
        clear bn10
        generalize wz.heap.size = B8 at *
        revert l13_10; revert n10; revert S10; revert u10; revert B13; revert B8
        exact h_8_13
      · go_simp
        have n11 := heap_alloc_new wz (.cells #[.int .i64 2] 3)
        have bn11 := bnew wz (.cells #[.int .i64 2] 3)
        have S11 := hal.out wz (.cells #[.int .i64 2] 3) S0
        have l13_11 := lk_bel bn11 f13 (lt_of_block f13)
        refine hK.out _ _ S11 (fun hHeld => ?_)
        clear hK K hHeld S0 f13 
        try simp only [Act.put, List.setIfInBounds_toArray, List.set_cons_zero, List.set_cons_succ]
        generalize wz.alloc (.cells #[.int .i64 2] 3) = u11 at *
        clear bn11
        generalize wz.heap.size = B10 at *
        revert l13_11; revert n11; revert S11; revert u11; revert B13; revert B10
        exact h_10_13
    · intro V8 ga wz S0 ra
      refine wpAnyH_ready (rs := [10, 13]) (by kernel_rfl) (by simp) ?_
      refine AllReadyH.cons rfl (fun K hK => ?_) (AllReadyH.cons rfl (fun K hK => ?_) AllReadyH.nil)
      · go_simp
        have n12 := heap_alloc_new wz (.cells #[.int .i64 2] 3)
        have bn12 := bnew wz (.cells #[.int .i64 2] 3)
        have S12 := hal.out wz (.cells #[.int .i64 2] 3) S0
        have r0_12 := row_below ra bn12
        refine hK.out _ _ S12 (fun hHeld => ?_)
        clear hK K hHeld S0  ra
        try simp only [Act.put, List.setIfInBounds_toArray, List.set_cons_zero, List.set_cons_succ]
        generalize wz.alloc (.cells #[.int .i64 2] 3) = u12 at *
        clear bn12
        generalize wz.heap.size = B10 at *
        revert r0_12; revert n12; revert S12; revert u12; revert ga; revert B10; revert V8
        exact h_8_9_10
      · go_simp
        have n13 := heap_alloc_new wz (.cells #[.int .i64 2] 3)
        have bn13 := bnew wz (.cells #[.int .i64 2] 3)
        have S13 := hal.out wz (.cells #[.int .i64 2] 3) S0
        have r0_13 := row_below ra bn13
        refine hK.out _ _ S13 (fun hHeld => ?_)
        clear hK K hHeld S0  ra
        try simp only [Act.put, List.setIfInBounds_toArray, List.set_cons_zero, List.set_cons_succ]
        generalize wz.alloc (.cells #[.int .i64 2] 3) = u13 at *
        clear bn13
        generalize wz.heap.size = B13 at *
        revert r0_13; revert n13; revert S13; revert u13; revert ga; revert B13; revert V8
        exact h_8_9_13
    · intro B8 B10 wz S0 f8 f10
      refine wpAnyH_ready (rs := [9, 13]) (by kernel_rfl) (by simp) ?_
      refine AllReadyH.cons rfl (fun K hK => ?_) (AllReadyH.cons rfl (fun K hK => ?_) AllReadyH.nil)
      · go_simp
        (with_reducible refine (ls1 _ _ f8).mono ?_)
        rintro e u14 ⟨g14, rfl, hg14, rn14, b14⟩
        have S14 := hss2.out _ (below_next S0.1 b14)
        have l8_14 := lk_bel b14 f8 (lt_of_block f8)
        have l10_14 := lk_bel b14 f10 (lt_of_block f10)
        refine hK.out _ _ S14 (fun hHeld => ?_)
        clear hK K hHeld S0 b14 f8 f10 
        try simp only [Act.put, List.setIfInBounds_toArray, List.set_cons_zero, List.set_cons_succ]
        clear hg14
        clear l8_14
        generalize (Value.slice (some ⟨B8, 0, none⟩) 1 1 : Value) = V8
        revert rn14; revert l10_14; revert S14; revert u14; revert g14; revert B10; revert V8
        exact h_8_9_10
      · go_simp
        have n15 := heap_alloc_new wz (.cells #[.int .i64 2] 3)
        have bn15 := bnew wz (.cells #[.int .i64 2] 3)
        have S15 := hal.out wz (.cells #[.int .i64 2] 3) S0
        have l8_15 := lk_bel bn15 f8 (lt_of_block f8)
        have l10_15 := lk_bel bn15 f10 (lt_of_block f10)
        refine hK.out _ _ S15 (fun hHeld => ?_)
        clear hK K hHeld S0 f8 f10 
        try simp only [Act.put, List.setIfInBounds_toArray, List.set_cons_zero, List.set_cons_succ]
        generalize wz.alloc (.cells #[.int .i64 2] 3) = u15 at *
        clear bn15
        generalize wz.heap.size = B13 at *
        revert n15; revert l10_15; revert l8_15; revert S15; revert u15; revert B13; revert B10; revert B8
        exact h_8_10_13
    · intro B8 B13 wz S0 f8 f13
      refine wpAnyH_ready (rs := [9, 10]) (by kernel_rfl) (by simp) ?_
      refine AllReadyH.cons rfl (fun K hK => ?_) (AllReadyH.cons rfl (fun K hK => ?_) AllReadyH.nil)
      · go_simp
        (with_reducible refine (ls1 _ _ f8).mono ?_)
        rintro e u16 ⟨g16, rfl, hg16, rn16, b16⟩
        have S16 := hss2.out _ (below_next S0.1 b16)
        have l8_16 := lk_bel b16 f8 (lt_of_block f8)
        have l13_16 := lk_bel b16 f13 (lt_of_block f13)
        refine hK.out _ _ S16 (fun hHeld => ?_)
        clear hK K hHeld S0 b16 f8 f13 
        try simp only [Act.put, List.setIfInBounds_toArray, List.set_cons_zero, List.set_cons_succ]
        clear hg16
        clear l8_16
        generalize (Value.slice (some ⟨B8, 0, none⟩) 1 1 : Value) = V8
        revert rn16; revert l13_16; revert S16; revert u16; revert g16; revert B13; revert V8
        exact h_8_9_13
      · go_simp
        have n17 := heap_alloc_new wz (.cells #[.int .i64 2] 3)
        have bn17 := bnew wz (.cells #[.int .i64 2] 3)
        have S17 := hal.out wz (.cells #[.int .i64 2] 3) S0
        have l8_17 := lk_bel bn17 f8 (lt_of_block f8)
        have l13_17 := lk_bel bn17 f13 (lt_of_block f13)
        refine hK.out _ _ S17 (fun hHeld => ?_)
        clear hK K hHeld S0 f8 f13 
        try simp only [Act.put, List.setIfInBounds_toArray, List.set_cons_zero, List.set_cons_succ]
        generalize wz.alloc (.cells #[.int .i64 2] 3) = u17 at *
        clear bn17
        generalize wz.heap.size = B10 at *
        revert l13_17; revert n17; revert l8_17; revert S17; revert u17; revert B13; revert B10; revert B8
        exact h_8_10_13
    · intro B10 B13 wz S0 f10 f13
      refine wpAnyH_ready (rs := [8]) (by kernel_rfl) (by simp) ?_
      refine AllReadyH.cons rfl (fun K hK => ?_) AllReadyH.nil
      · go_simp
        have n18 := heap_alloc_new wz (.cells #[.int .i64 1] 3)
        have bn18 := bnew wz (.cells #[.int .i64 1] 3)
        have S18 := hal.out wz (.cells #[.int .i64 1] 3) S0
        have l10_18 := lk_bel bn18 f10 (lt_of_block f10)
        have l13_18 := lk_bel bn18 f13 (lt_of_block f13)
        refine hK.out _ _ S18 (fun hHeld => ?_)
        clear hK K hHeld S0 f10 f13 
        try simp only [Act.put, List.setIfInBounds_toArray, List.set_cons_zero, List.set_cons_succ]
        generalize wz.alloc (.cells #[.int .i64 1] 3) = u18 at *
        clear bn18
        generalize wz.heap.size = B8 at *
        revert l13_18; revert l10_18; revert n18; revert S18; revert u18; revert B13; revert B10; revert B8
        exact h_8_10_13
    · intro V8 B10 ga wz S0 f10 ra
      refine wpAnyH_ready (rs := [11, 13]) (by kernel_rfl) (by simp) ?_
      refine AllReadyH.cons rfl (fun K hK => ?_) (AllReadyH.cons rfl (fun K hK => ?_) AllReadyH.nil)
      · go_simp
        (with_reducible refine (ls2 _ _ f10).mono ?_)
        rintro e u19 ⟨g19, rfl, hg19, rn19, b19⟩
        have S19 := hss2.out _ (below_next S0.1 b19)
        have l10_19 := lk_bel b19 f10 (lt_of_block f10)
        have r0_19 := row_below ra b19
        refine hK.out _ _ S19 (fun hHeld => ?_)
        clear hK K hHeld S0 b19 f10 ra
        try simp only [Act.put, List.setIfInBounds_toArray, List.set_cons_zero, List.set_cons_succ]
        clear hg19
        clear l10_19
        generalize (Value.slice (some ⟨B10, 0, none⟩) 1 1 : Value) = V10
        revert rn19; revert r0_19; revert S19; revert u19; revert g19; revert ga; revert V10; revert V8
        exact h_8_9_10_11
      · go_simp
        have n20 := heap_alloc_new wz (.cells #[.int .i64 2] 3)
        have bn20 := bnew wz (.cells #[.int .i64 2] 3)
        have S20 := hal.out wz (.cells #[.int .i64 2] 3) S0
        have l10_20 := lk_bel bn20 f10 (lt_of_block f10)
        have r0_20 := row_below ra bn20
        refine hK.out _ _ S20 (fun hHeld => ?_)
        clear hK K hHeld S0 f10 ra
        try simp only [Act.put, List.setIfInBounds_toArray, List.set_cons_zero, List.set_cons_succ]
        generalize wz.alloc (.cells #[.int .i64 2] 3) = u20 at *
        clear bn20
        generalize wz.heap.size = B13 at *
        revert r0_20; revert n20; revert l10_20; revert S20; revert u20; revert ga; revert B13; revert B10; revert V8
        exact h_8_9_10_13
    · intro V8 B13 ga wz S0 f13 ra
      refine wpAnyH_ready (rs := [10]) (by kernel_rfl) (by simp) ?_
      refine AllReadyH.cons rfl (fun K hK => ?_) AllReadyH.nil
      · go_simp
        have n21 := heap_alloc_new wz (.cells #[.int .i64 2] 3)
        have bn21 := bnew wz (.cells #[.int .i64 2] 3)
        have S21 := hal.out wz (.cells #[.int .i64 2] 3) S0
        have l13_21 := lk_bel bn21 f13 (lt_of_block f13)
        have r0_21 := row_below ra bn21
        refine hK.out _ _ S21 (fun hHeld => ?_)
        clear hK K hHeld S0 f13 ra
        try simp only [Act.put, List.setIfInBounds_toArray, List.set_cons_zero, List.set_cons_succ]
        generalize wz.alloc (.cells #[.int .i64 2] 3) = u21 at *
        clear bn21
        generalize wz.heap.size = B10 at *
        revert r0_21; revert l13_21; revert n21; revert S21; revert u21; revert ga; revert B13; revert B10; revert V8
        exact h_8_9_10_13
    · intro B8 B10 B13 wz S0 f8 f10 f13
      refine wpAnyH_ready (rs := [9]) (by kernel_rfl) (by simp) ?_
      refine AllReadyH.cons rfl (fun K hK => ?_) AllReadyH.nil
      · go_simp
        (with_reducible refine (ls1 _ _ f8).mono ?_)
        rintro e u22 ⟨g22, rfl, hg22, rn22, b22⟩
        have S22 := hss2.out _ (below_next S0.1 b22)
        have l8_22 := lk_bel b22 f8 (lt_of_block f8)
        have l10_22 := lk_bel b22 f10 (lt_of_block f10)
        have l13_22 := lk_bel b22 f13 (lt_of_block f13)
        refine hK.out _ _ S22 (fun hHeld => ?_)
        clear hK K hHeld S0 b22 f8 f10 f13 
        try simp only [Act.put, List.setIfInBounds_toArray, List.set_cons_zero, List.set_cons_succ]
        clear hg22
        clear l8_22
        generalize (Value.slice (some ⟨B8, 0, none⟩) 1 1 : Value) = V8
        revert rn22; revert l13_22; revert l10_22; revert S22; revert u22; revert g22; revert B13; revert B10; revert V8
        exact h_8_9_10_13
    · intro V8 V10 ga gb wz S0 ra rb
      refine wpAnyH_ready (rs := [12, 13]) (by kernel_rfl) (by simp) ?_
      refine AllReadyH.cons rfl (fun K hK => ?_) (AllReadyH.cons rfl (fun K hK => ?_) AllReadyH.nil)
      · go_simp
        (with_reducible refine (ls0 _).mono ?_)
        rintro e u23 ⟨g23, rfl, hg23, rn23, b23⟩
        have S23 := hss2.out _ (below_next S0.1 b23)
        have r0_23 := row_below ra b23
        have r1_23 := row_below rb b23
        refine hK.out _ _ S23 (fun hHeld => ?_)
        clear hK K hHeld S0 b23  ra rb
        try simp only [Act.put, List.setIfInBounds_toArray, List.set_cons_zero, List.set_cons_succ]
        clear hg23
        revert rn23; revert r1_23; revert r0_23; revert S23; revert u23; revert g23; revert gb; revert ga; revert V10; revert V8
        exact h_8_9_10_11_12
      · go_simp
        have n24 := heap_alloc_new wz (.cells #[.int .i64 2] 3)
        have bn24 := bnew wz (.cells #[.int .i64 2] 3)
        have S24 := hal.out wz (.cells #[.int .i64 2] 3) S0
        have r0_24 := row_below ra bn24
        have r1_24 := row_below rb bn24
        refine hK.out _ _ S24 (fun hHeld => ?_)
        clear hK K hHeld S0  ra rb
        try simp only [Act.put, List.setIfInBounds_toArray, List.set_cons_zero, List.set_cons_succ]
        generalize wz.alloc (.cells #[.int .i64 2] 3) = u24 at *
        clear bn24
        generalize wz.heap.size = B13 at *
        revert r1_24; revert r0_24; revert n24; revert S24; revert u24; revert gb; revert ga; revert B13; revert V10; revert V8
        exact h_8_9_10_11_13
    · intro V8 B10 B13 ga wz S0 f10 f13 ra
      refine wpAnyH_ready (rs := [11]) (by kernel_rfl) (by simp) ?_
      refine AllReadyH.cons rfl (fun K hK => ?_) AllReadyH.nil
      · go_simp
        (with_reducible refine (ls2 _ _ f10).mono ?_)
        rintro e u25 ⟨g25, rfl, hg25, rn25, b25⟩
        have S25 := hss2.out _ (below_next S0.1 b25)
        have l10_25 := lk_bel b25 f10 (lt_of_block f10)
        have l13_25 := lk_bel b25 f13 (lt_of_block f13)
        have r0_25 := row_below ra b25
        refine hK.out _ _ S25 (fun hHeld => ?_)
        clear hK K hHeld S0 b25 f10 f13 ra
        try simp only [Act.put, List.setIfInBounds_toArray, List.set_cons_zero, List.set_cons_succ]
        clear hg25
        clear l10_25
        generalize (Value.slice (some ⟨B10, 0, none⟩) 1 1 : Value) = V10
        revert rn25; revert r0_25; revert l13_25; revert S25; revert u25; revert g25; revert ga; revert B13; revert V10; revert V8
        exact h_8_9_10_11_13
    · intro V8 V10 ga gb gc wz S0 ra rb rc
      refine wpAnyH_ready (rs := [13]) (by kernel_rfl) (by simp) ?_
      refine AllReadyH.cons rfl (fun K hK => ?_) AllReadyH.nil
      · go_simp
        have n26 := heap_alloc_new wz (.cells #[.int .i64 2] 3)
        have bn26 := bnew wz (.cells #[.int .i64 2] 3)
        have S26 := hal.out wz (.cells #[.int .i64 2] 3) S0
        have r0_26 := row_below ra bn26
        have r1_26 := row_below rb bn26
        have r2_26 := row_below rc bn26
        refine hK.out _ _ S26 (fun hHeld => ?_)
        clear hK K hHeld S0  ra rb rc
        try simp only [Act.put, List.setIfInBounds_toArray, List.set_cons_zero, List.set_cons_succ]
        generalize wz.alloc (.cells #[.int .i64 2] 3) = u26 at *
        clear bn26
        generalize wz.heap.size = B13 at *
        revert r2_26; revert r1_26; revert r0_26; revert n26; revert S26; revert u26; revert gc; revert gb; revert ga; revert B13; revert V10; revert V8
        exact h_8_9_10_11_12_13
    · intro V8 V10 B13 ga gb wz S0 f13 ra rb
      refine wpAnyH_ready (rs := [12]) (by kernel_rfl) (by simp) ?_
      refine AllReadyH.cons rfl (fun K hK => ?_) AllReadyH.nil
      · go_simp
        (with_reducible refine (ls0 _).mono ?_)
        rintro e u27 ⟨g27, rfl, hg27, rn27, b27⟩
        have S27 := hss2.out _ (below_next S0.1 b27)
        have l13_27 := lk_bel b27 f13 (lt_of_block f13)
        have r0_27 := row_below ra b27
        have r1_27 := row_below rb b27
        refine hK.out _ _ S27 (fun hHeld => ?_)
        clear hK K hHeld S0 b27 f13 ra rb
        try simp only [Act.put, List.setIfInBounds_toArray, List.set_cons_zero, List.set_cons_succ]
        clear hg27
        revert rn27; revert r1_27; revert r0_27; revert l13_27; revert S27; revert u27; revert g27; revert gb; revert ga; revert B13; revert V10; revert V8
        exact h_8_9_10_11_12_13
    · intro V8 V10 B13 ga gb gc wz S0 f13 ra rb rc
      refine wpAnyH_ready (rs := [14]) (by kernel_rfl) (by simp) ?_
      refine AllReadyH.cons rfl (fun K hK => ?_) AllReadyH.nil
      · go_simp
        (with_reducible refine (ls2 _ _ f13).mono ?_)
        rintro e u28 ⟨g28, rfl, hg28, rn28, b28⟩
        have S28 := hss2.out _ (below_next S0.1 b28)
        have l13_28 := lk_bel b28 f13 (lt_of_block f13)
        have r0_28 := row_below ra b28
        have r1_28 := row_below rb b28
        have r2_28 := row_below rc b28
        refine hK.out _ _ S28 (fun hHeld => ?_)
        clear hK K hHeld S0 b28 f13 ra rb rc
        try simp only [Act.put, List.setIfInBounds_toArray, List.set_cons_zero, List.set_cons_succ]
        clear hg28
        clear l13_28
        generalize (Value.slice (some ⟨B13, 0, none⟩) 1 1 : Value) = V13
        revert rn28; revert r2_28; revert r1_28; revert r0_28; revert S28; revert u28; revert g28; revert gc; revert gb; revert ga; revert V13; revert V10; revert V8
        exact h_8_9_10_11_12_13_14
    · intro V8 V10 V13 ga gb gc ge wz S0 ra rb rc re
      refine wpAnyH_ready (rs := [15]) (by kernel_rfl) (by simp) ?_
      refine AllReadyH.cons rfl (fun K hK => ?_) AllReadyH.nil
      go_simp
      have n29 := heap_alloc_new wz (.cells #[.int .i64 4, .slice (some ⟨ga, 0, none⟩) 1 1, .int .i64 4, .slice (some ⟨gb, 0, none⟩) 1 1, .int .i64 4, .slice (some ⟨gc, 0, none⟩) 1 1, .int .i64 4, .slice (some ⟨ge, 0, none⟩) 1 1] 37)
      have bn29 := bnew wz (.cells #[.int .i64 4, .slice (some ⟨ga, 0, none⟩) 1 1, .int .i64 4, .slice (some ⟨gb, 0, none⟩) 1 1, .int .i64 4, .slice (some ⟨gc, 0, none⟩) 1 1, .int .i64 4, .slice (some ⟨ge, 0, none⟩) 1 1] 37)
      have S29 := hal.out wz (.cells #[.int .i64 4, .slice (some ⟨ga, 0, none⟩) 1 1, .int .i64 4, .slice (some ⟨gb, 0, none⟩) 1 1, .int .i64 4, .slice (some ⟨gc, 0, none⟩) 1 1, .int .i64 4, .slice (some ⟨ge, 0, none⟩) 1 1] 37) S0
      have r0_29 := row_below ra bn29
      have r1_29 := row_below rb bn29
      have r2_29 := row_below rc bn29
      have r3_29 := row_below re bn29
      refine hK.out _ _ S29 (fun hHeld => ?_)
      clear hK K hHeld S0  ra rb rc re
      try simp only [Act.put, List.setIfInBounds_toArray, List.set_cons_zero, List.set_cons_succ]
      generalize wz.alloc (.cells #[.int .i64 4, .slice (some ⟨ga, 0, none⟩) 1 1, .int .i64 4, .slice (some ⟨gb, 0, none⟩) 1 1, .int .i64 4, .slice (some ⟨gc, 0, none⟩) 1 1, .int .i64 4, .slice (some ⟨ge, 0, none⟩) 1 1] 37) = u29 at *
      clear bn29
      refine wpAnyH_take (i := 16) (v := ?_) rfl (by kernel_rfl) (by kernel_rfl) (by kernel_rfl) (fun _ _ _ h => h) (Or.inl ⟨by rfl, ?_⟩) (by assumption) ?_
      rotate_left 1
      · intro w hSw
        (try dsimp only at hSw)
        go_simp
        all_goals with_reducible rfl
      try simp only [Act.put, List.setIfInBounds_toArray, List.set_cons_zero, List.set_cons_succ]
      refine wpAnyH_ready (rs := [17]) (by kernel_rfl) (by simp) ?_
      refine AllReadyH.cons rfl (fun K hK => ?_) AllReadyH.nil
      go_simp
      (with_reducible refine (HSm.out _ _ ga gb gc ge S29.1 r0_29 r1_29 r2_29 r3_29 n29).mono ?_)
      rintro e u30 ⟨rfl, b30⟩
      have S30 := hss2.out _ (below_next S29.1 b30)
      have l15_30 := lk_bel b30 n29 (lt_of_block n29)
      have r0_30 := row_below r0_29 b30
      have r1_30 := row_below r1_29 b30
      have r2_30 := row_below r2_29 b30
      have r3_30 := row_below r3_29 b30
      refine hK.out _ _ S30 (fun hHeld => ?_)
      clear hK K hHeld S29 b30 n29 r0_29 r1_29 r2_29 r3_29
      try simp only [Act.put, List.setIfInBounds_toArray, List.set_cons_zero, List.set_cons_succ]
      clear l15_30 r0_30 r1_30 r2_30 r3_30
      refine wpAnyH_take (i := 18) (v := ?_) rfl (by kernel_rfl) (by kernel_rfl) (by kernel_rfl) (fun _ _ _ h => h) (Or.inl ⟨by rfl, ?_⟩) (by assumption) ?_
      rotate_left 1
      · intro w hSw
        (try dsimp only at hSw)
        go_simp
        all_goals with_reducible rfl
      try simp only [Act.put, List.setIfInBounds_toArray, List.set_cons_zero, List.set_cons_succ]
      refine wpAnyH_take (i := 19) (v := ?_) rfl (by kernel_rfl) (by kernel_rfl) (by kernel_rfl) (fun _ _ _ h => h) (Or.inl ⟨by rfl, ?_⟩) (by assumption) ?_
      rotate_left 1
      · intro w hSw
        (try dsimp only at hSw)
        go_simp
        all_goals with_reducible rfl
      try simp only [Act.put, List.setIfInBounds_toArray, List.set_cons_zero, List.set_cons_succ]
      refine wpAnyH_take (i := 20) (v := ?_) rfl (by kernel_rfl) (by kernel_rfl) (by kernel_rfl) (fun _ _ _ h => h) (Or.inl ⟨by rfl, ?_⟩) (by assumption) ?_
      rotate_left 1
      · intro w hSw
        (try dsimp only at hSw)
        go_simp
        all_goals with_reducible rfl
      try simp only [Act.put, List.setIfInBounds_toArray, List.set_cons_zero, List.set_cons_succ]
      refine wpAnyH_take (i := 21) (v := ?_) rfl (by kernel_rfl) (by kernel_rfl) (by kernel_rfl) (fun _ _ _ h => h) (Or.inl ⟨by rfl, ?_⟩) (by assumption) ?_
      rotate_left 1
      · intro w hSw
        (try dsimp only at hSw)
        go_simp
        all_goals with_reducible rfl
      try simp only [Act.put, List.setIfInBounds_toArray, List.set_cons_zero, List.set_cons_succ]
      refine wpAnyH_take (i := 22) (v := ?_) rfl (by kernel_rfl) (by kernel_rfl) (by kernel_rfl) (fun _ _ _ h => h) (Or.inl ⟨by rfl, ?_⟩) (by assumption) ?_
      rotate_left 1
      · intro w hSw
        (try dsimp only at hSw)
        go_simp
        all_goals with_reducible rfl
      try simp only [Act.put, List.setIfInBounds_toArray, List.set_cons_zero, List.set_cons_succ]
      refine wpAnyH_take (i := 23) (v := ?_) rfl (by kernel_rfl) (by kernel_rfl) (by kernel_rfl) (fun _ _ _ h => h) (Or.inl ⟨by rfl, ?_⟩) (by assumption) ?_
      rotate_left 1
      · intro w hSw
        (try dsimp only at hSw)
        go_simp
        all_goals with_reducible rfl
      try simp only [Act.put, List.setIfInBounds_toArray, List.set_cons_zero, List.set_cons_succ]
      refine wpAnyH_take (i := 24) (v := ?_) rfl (by kernel_rfl) (by kernel_rfl) (by kernel_rfl) (fun _ _ _ h => h) (Or.inl ⟨by rfl, ?_⟩) (by assumption) ?_
      rotate_left 1
      · intro w hSw
        (try dsimp only at hSw)
        go_simp
        all_goals with_reducible rfl
      try simp only [Act.put, List.setIfInBounds_toArray, List.set_cons_zero, List.set_cons_succ]
      refine wpAnyH_ready (rs := [25]) (by kernel_rfl) (by simp) ?_
      refine AllReadyH.cons rfl (fun K hK => ?_) AllReadyH.nil
      go_simp
      have n31 := heap_alloc_new u30 (.cells #[.int .i64 0, .int .i64 1, .int .i64 2, .int .i64 0] 3)
      have bn31 := bnew u30 (.cells #[.int .i64 0, .int .i64 1, .int .i64 2, .int .i64 0] 3)
      have S31 := hal.out u30 (.cells #[.int .i64 0, .int .i64 1, .int .i64 2, .int .i64 0] 3) S30
      refine hK.out _ _ S31 (fun hHeld => ?_)
      clear hK K hHeld S30  
      try simp only [Act.put, List.setIfInBounds_toArray, List.set_cons_zero, List.set_cons_succ]
      generalize u30.alloc (.cells #[.int .i64 0, .int .i64 1, .int .i64 2, .int .i64 0] 3) = u31 at *
      clear bn31
      refine wpAnyH_ready (rs := [26]) (by kernel_rfl) (by simp) ?_
      refine AllReadyH.cons rfl (fun K hK => ?_) AllReadyH.nil
      go_simp
      (with_reducible refine (HEq.out _ _ S31.1 n31).mono ?_)
      rintro e u32 ⟨rfl, b32⟩
      have S32 := hss2.out _ (below_next S31.1 b32)
      have l25_32 := lk_bel b32 n31 (lt_of_block n31)
      refine hK.out _ _ S32 (fun hHeld => ?_)
      clear hK K hHeld S31 b32 n31 
      try simp only [Act.put, List.setIfInBounds_toArray, List.set_cons_zero, List.set_cons_succ]
      clear l25_32
      refine wpAnyH_take (i := 27) (v := ?_) rfl (by kernel_rfl) (by kernel_rfl) (by kernel_rfl) (fun _ _ _ h => h) (Or.inl ⟨by rfl, ?_⟩) (by assumption) ?_
      rotate_left 1
      · intro w hSw
        (try dsimp only at hSw)
        go_simp
        all_goals with_reducible rfl
      try simp only [Act.put, List.setIfInBounds_toArray, List.set_cons_zero, List.set_cons_succ]
      refine wpAnyH_take (i := 28) (v := ?_) rfl (by kernel_rfl) (by kernel_rfl) (by kernel_rfl) (fun _ _ _ h => h) (Or.inl ⟨by rfl, ?_⟩) (by assumption) ?_
      rotate_left 1
      · intro w hSw
        (try dsimp only at hSw)
        go_simp
        all_goals with_reducible rfl
      try simp only [Act.put, List.setIfInBounds_toArray, List.set_cons_zero, List.set_cons_succ]
      refine wpAnyH_take (i := 29) (v := ?_) rfl (by kernel_rfl) (by kernel_rfl) (by kernel_rfl) (fun _ _ _ h => h) (Or.inl ⟨by rfl, ?_⟩) (by assumption) ?_
      rotate_left 1
      · intro w hSw
        (try dsimp only at hSw)
        go_simp
        all_goals with_reducible rfl
      try simp only [Act.put, List.setIfInBounds_toArray, List.set_cons_zero, List.set_cons_succ]
      refine wpAnyH_take (i := 30) (v := ?_) rfl (by kernel_rfl) (by kernel_rfl) (by kernel_rfl) (fun _ _ _ h => h) (Or.inl ⟨by rfl, ?_⟩) (by assumption) ?_
      rotate_left 1
      · intro w hSw
        (try dsimp only at hSw)
        go_simp
        all_goals with_reducible rfl
      try simp only [Act.put, List.setIfInBounds_toArray, List.set_cons_zero, List.set_cons_succ]
      refine wpAnyH_take (i := 31) (v := ?_) rfl (by kernel_rfl) (by kernel_rfl) (by kernel_rfl) (fun _ _ _ h => h) (Or.inl ⟨by rfl, ?_⟩) (by assumption) ?_
      rotate_left 1
      · intro w hSw
        (try dsimp only at hSw)
        go_simp
        all_goals with_reducible rfl
      try simp only [Act.put, List.setIfInBounds_toArray, List.set_cons_zero, List.set_cons_succ]
      refine wpAnyH_take (i := 32) (v := ?_) rfl (by kernel_rfl) (by kernel_rfl) (by kernel_rfl) (fun _ _ _ h => h) (Or.inl ⟨by rfl, ?_⟩) (by assumption) ?_
      rotate_left 1
      · intro w hSw
        (try dsimp only at hSw)
        go_simp
        all_goals with_reducible rfl
      try simp only [Act.put, List.setIfInBounds_toArray, List.set_cons_zero, List.set_cons_succ]
      refine wpAnyH_take (i := 33) (v := ?_) rfl (by kernel_rfl) (by kernel_rfl) (by kernel_rfl) (fun _ _ _ h => h) (Or.inl ⟨by rfl, ?_⟩) (by assumption) ?_
      rotate_left 1
      · intro w hSw
        (try dsimp only at hSw)
        go_simp
        all_goals with_reducible rfl
      try simp only [Act.put, List.setIfInBounds_toArray, List.set_cons_zero, List.set_cons_succ]
      refine wpAnyH_ready (rs := [34]) (by kernel_rfl) (by simp) ?_
      refine AllReadyH.cons rfl (fun K hK => ?_) AllReadyH.nil
      go_simp
      have n33 := heap_alloc_new u32 (.cells #[.int .i64 0, .int .i64 1] 3)
      have bn33 := bnew u32 (.cells #[.int .i64 0, .int .i64 1] 3)
      have S33 := hal.out u32 (.cells #[.int .i64 0, .int .i64 1] 3) S32
      refine hK.out _ _ S33 (fun hHeld => ?_)
      clear hK K hHeld S32  
      try simp only [Act.put, List.setIfInBounds_toArray, List.set_cons_zero, List.set_cons_succ]
      generalize u32.alloc (.cells #[.int .i64 0, .int .i64 1] 3) = u33 at *
      clear bn33
      refine wpAnyH_ready (rs := [35]) (by kernel_rfl) (by simp) ?_
      refine AllReadyH.cons rfl (fun K hK => ?_) AllReadyH.nil
      go_simp
      (with_reducible refine (ls01 _ _ n33).mono ?_)
      rintro e u34 ⟨g34, rfl, hg34, rn34, b34⟩
      have S34 := hss2.out _ (below_next S33.1 b34)
      have l34_34 := lk_bel b34 n33 (lt_of_block n33)
      refine hK.out _ _ S34 (fun hHeld => ?_)
      clear hK K hHeld S33 b34 n33 
      try simp only [Act.put, List.setIfInBounds_toArray, List.set_cons_zero, List.set_cons_succ]
      clear hg34
      clear l34_34
      refine wpAnyH_ready (rs := [36]) (by kernel_rfl) (by simp) ?_
      refine AllReadyH.cons rfl (fun K hK => ?_) AllReadyH.nil
      go_simp
      (with_reducible refine (HSd.out _ _ S34.1 rn34).mono ?_)
      rintro e u35 ⟨rfl, b35⟩
      have S35 := hss2.out _ (below_next S34.1 b35)
      have r0_35 := row_below rn34 b35
      refine hK.out _ _ S35 (fun hHeld => ?_)
      clear hK K hHeld S34 b35  rn34
      try simp only [Act.put, List.setIfInBounds_toArray, List.set_cons_zero, List.set_cons_succ]
      refine wpAnyH_take (i := 37) (v := ?_) rfl (by kernel_rfl) (by kernel_rfl) (by kernel_rfl) (fun _ _ _ h => h) (Or.inl ⟨by rfl, ?_⟩) (by assumption) ?_
      rotate_left 1
      · intro w hSw
        (try dsimp only at hSw)
        go_simp
        all_goals with_reducible rfl
      try simp only [Act.put, List.setIfInBounds_toArray, List.set_cons_zero, List.set_cons_succ]
      try simp only [Act.put, List.getElem_toArray, List.getElem_cons_succ, List.getElem_cons_zero, List.setIfInBounds_toArray, List.set_cons_zero, List.set_cons_succ]
      refine wpAnyH_take (i := 38) (v := ?_) rfl (by kernel_rfl) (by kernel_rfl) (by kernel_rfl) (fun _ _ _ h => h) (Or.inl ⟨by rfl, ?_⟩) (by assumption) ?_
      rotate_left 1
      · intro w hSw
        (try dsimp only at hSw)
        go_simp
        all_goals with_reducible rfl
      try simp only [Act.put, List.setIfInBounds_toArray, List.set_cons_zero, List.set_cons_succ]
      try simp only [Act.put, List.getElem_toArray, List.getElem_cons_succ, List.getElem_cons_zero, List.setIfInBounds_toArray, List.set_cons_zero, List.set_cons_succ]
      refine wpAnyH_done (by kernel_rfl) ?_ _
      refine NoPanic.normal ?_
      try simp only [Act.put, List.getElem_toArray, List.getElem_cons_succ, List.getElem_cons_zero, List.setIfInBounds_toArray, List.set_cons_zero, List.set_cons_succ]
      go_wp2_with fail
      go_ret
      exact ⟨by first | rfl | (simp; done) | (simp; rfl), below_next B9 S35.1⟩
end Go.Proofs.YtakjdihhbndcnaaDoor
