/- RelationEither: the law's own text, walked: it returns true for every relation. -/
import Derived.Test.YtfjikeejifhnbaaDoorLEiM
namespace Go.Proofs.YtfjikeejifhnbaaDoor
open Go.RowKit
set_option maxRecDepth 100000 in
set_option maxHeartbeats 16000000 in
theorem ei_big (A : Option Addr) (n ca : Nat) (R : Nat → RowD) (w : World) (hx : Rel w A n R) (hT : Tab w) (hg : Great n R) :
    Calls Tryd.prog 8 #[.agg #[.slice A n ca]] w fun e w' => e = .returned (.bool true) ∧ Below w.heap.size w w' := by
  have HG := Lib.hid hg; clear hg
  have hT0 : RelAt (w.alloc (.cells #[.slice A n ca] 24)) w.heap.size A n ca := relAt_new w A n ca
  have b0 : Below w.heap.size w (w.alloc (.cells #[.slice A n ca] 24)) := (Below.refl _ _).alloc (Nat.le_refl _) _
  have HH := Lib.hid hx; clear hx
  go_enter Tryd.func8, Tryd.ntmps8
  go_wp2_with fail
  refine (awake_any _ (hT.below b0)).mono ?_; rintro e w1 ⟨rfl, k1⟩
  have r1 := hT0.below k1
  have b1 := below_next b0 k1
  clear hT0 b0 k1
  have c0 := r1.c0
  go_wp2_with fail
  clear c0
  refine (great_any w1.heap.size 1 (fun _ => ⟨A, n, ca, R⟩) true _ (rels_one w1 (fun _ => ⟨A, n, ca, R⟩) (HH.out.below b1)) (by decide) (Or.inl ⟨rfl, 0, by decide, HG.out⟩)).mono ?_; rintro e w2 ⟨rfl, k2⟩
  have k2' := ((Below.refl w1.heap.size w1).alloc (Nat.le_refl _) (.cells #[.slice A n ca] 24)).trans (k2.mono (by simp))
  have r2 := r1.below k2'
  have b2 := below_next b1 k2'
  clear r1 b1 k2 k2'
  go_wp2_with fail
  go_ret
  exact ⟨rfl, b2⟩
set_option maxRecDepth 100000 in
set_option maxHeartbeats 16000000 in
theorem ei_nv (A : Option Addr) (n ca : Nat) (R : Nat → RowD) (w : World) (hx : Rel w A n R) (hT : Tab w) (hg : ¬ Great n R) (vx : ¬ VRel n R) :
    Calls Tryd.prog 8 #[.agg #[.slice A n ca]] w fun e w' => e = .returned (.bool true) ∧ Below w.heap.size w w' := by
  have HG := Lib.hid hg; clear hg
  have VX := Lib.hid vx; clear vx
  have hT0 : RelAt (w.alloc (.cells #[.slice A n ca] 24)) w.heap.size A n ca := relAt_new w A n ca
  have b0 : Below w.heap.size w (w.alloc (.cells #[.slice A n ca] 24)) := (Below.refl _ _).alloc (Nat.le_refl _) _
  have HH := Lib.hid hx; clear hx
  go_enter Tryd.func8, Tryd.ntmps8
  go_wp2_with fail
  refine (awake_any _ (hT.below b0)).mono ?_; rintro e w1 ⟨rfl, k1⟩
  have r1 := hT0.below k1
  have b1 := below_next b0 k1
  clear hT0 b0 k1
  have c0 := r1.c0
  go_wp2_with fail
  clear c0
  refine (great_any w1.heap.size 1 (fun _ => ⟨A, n, ca, R⟩) false _ (rels_one w1 (fun _ => ⟨A, n, ca, R⟩) (HH.out.below b1)) (by decide) (Or.inr ⟨rfl, fun _ _ => HG.out⟩)).mono ?_; rintro e w2 ⟨rfl, k2⟩
  have k2' := ((Below.refl w1.heap.size w1).alloc (Nat.le_refl _) (.cells #[.slice A n ca] 24)).trans (k2.mono (by simp))
  have r2 := r1.below k2'
  have b2 := below_next b1 k2'
  clear r1 b1 k2 k2'
  have c0 := r2.c0
  go_wp2_with fail
  clear c0
  refine (refValid_no A n ca R _ (HH.out.below b2) VX.out).mono ?_; rintro e w3 ⟨rfl, k3⟩
  go_wp2_with fail
  go_ret
  exact ⟨rfl, below_next b2 k3⟩
set_option maxRecDepth 100000 in
set_option maxHeartbeats 16000000 in
theorem ei_acy (A : Option Addr) (n ca : Nat) (R : Nat → RowD) (w : World) (hx : Rel w A n R) (hT : Tab w) (hg : ¬ Great n R) (vx : VRel n R) (o : List Nat) (ho : orderOf n (mat R) = some o) :
    Calls Tryd.prog 8 #[.agg #[.slice A n ca]] w fun e w' => e = .returned (.bool true) ∧ Below w.heap.size w w' := by
  have hn := vx.1
  have HG := Lib.hid hg; clear hg
  have VX := Lib.hid vx; clear vx
  have HO := Lib.hid ho; clear ho
  have hq : ((n : Int) != (n : Int)) = false := by simp
  have hmk := make_ints n (by omega)
  have hT0 : RelAt (w.alloc (.cells #[.slice A n ca] 24)) w.heap.size A n ca := relAt_new w A n ca
  have b0 : Below w.heap.size w (w.alloc (.cells #[.slice A n ca] 24)) := (Below.refl _ _).alloc (Nat.le_refl _) _
  have HH := Lib.hid hx; clear hx
  go_enter Tryd.func8, Tryd.ntmps8
  go_wp2_with fail
  refine (awake_any _ (hT.below b0)).mono ?_; rintro e w1 ⟨rfl, k1⟩
  have r1 := hT0.below k1
  have b1 := below_next b0 k1
  clear hT0 b0 k1
  have c0 := r1.c0
  go_wp2_with fail
  clear c0
  refine (great_any w1.heap.size 1 (fun _ => ⟨A, n, ca, R⟩) false _ (rels_one w1 (fun _ => ⟨A, n, ca, R⟩) (HH.out.below b1)) (by decide) (Or.inr ⟨rfl, fun _ _ => HG.out⟩)).mono ?_; rintro e w2 ⟨rfl, k2⟩
  have k2' := ((Below.refl w1.heap.size w1).alloc (Nat.le_refl _) (.cells #[.slice A n ca] 24)).trans (k2.mono (by simp))
  have r2 := r1.below k2'
  have b2 := below_next b1 k2'
  clear r1 b1 k2 k2'
  have c0 := r2.c0
  go_wp2_with fail
  clear c0
  refine (refValid_yes A n ca R _ (HH.out.below b2) VX.out).mono ?_; rintro e w3 ⟨rfl, k3⟩
  have r3 := r2.below k3
  have b3 := below_next b2 k3
  clear r2 b2 k3
  have c0 := r3.c0
  go_wp2_with fail
  clear c0
  refine (table_any A n ca R _ (HH.out.below b3) VX.out).mono ?_; rintro e w4 ⟨vT, B, C, rfl, hBT, k4⟩
  replace hBT := hBT.mono (Nat.zero_le _)
  obtain ⟨AT, cT, rfl⟩ := hBT.form
  have r4 := r3.below k4
  have b4 := below_next b3 k4
  clear r3 b3 k4
  have c0 := r4.c0
  go_wp2_with fail
  clear c0
  refine (order_yes (HH.out.below b4) VX.out (hT.below b4) HO.out).mono ?_; rintro e w5 ⟨AO, cO, rfl, hown, k5⟩
  replace hown := own_mono hown (Nat.zero_le _)
  replace hBT := hBT.below k5
  have r5 := r4.below k5
  have b5 := below_next b4 k5
  clear r4 b4 k5
  have c0 := r5.c0
  go_wp2_with fail
  clear c0
  refine (cycle_no (HH.out.below b5) VX.out (hT.below b5) (acy_first HO.out)).mono ?_; rintro e w6 ⟨rfl, k6⟩
  replace hown := own_below hown k6
  replace hBT := hBT.below k6
  have r6 := r5.below k6
  have b6 := below_next b5 k6
  clear r5 b5 k6
  have c0 := r6.c0
  go_wp2_with fail
  clear c0
  refine (acyclic_ok A n ca R _ (HH.out.below b6) VX.out (hT.below b6)).mono ?_; rintro e w7 ⟨rfl, k7⟩
  rw [show (orderOf n (mat R)).isSome = true by rw [HO.out]; rfl]
  replace hown := own_below hown k7
  replace hBT := hBT.below k7
  have r7 := r6.below k7
  have b7 := below_next b6 k7
  clear r6 b6 k7
  go_wp2_with fail
  have hrow : (w7.alloc (.cells (madeCells #[.int .i64 0] n) 3)).rowIs w7.heap.size 3 n (nvals (plc o 0)) := World.rowIs_made w7 (.int .i64 0) n 3
  have k8 := (Below.refl w7.heap.size w7).alloc (Nat.le_refl _) (.cells (madeCells #[.int .i64 0] n) 3)
  have htopo := (order_topo HO.out).1
  have hol := (order_topo HO.out).2
  have HTO := Lib.hid htopo
  have HOL : Hid (o.length = n) := hol
  clear r7 htopo hol hmk
  generalize w7.alloc (.cells (madeCells #[.int .i64 0] n) 3) = W8 at *
  go_loopw [10, 11, 65] (fun _ _ i wr => ∃ K : Nat, K ≤ n ∧ i = .int .i64 K ∧ wr.rowIs w7.heap.size 3 n (nvals (plc o K)) ∧ Below w7.heap.size w7 wr) (fun _ _ i _ => n - (intOf i).toNat)
  case atStart => exact ⟨0, by omega, rfl, hrow, k8⟩
  case round =>
    clear hrow k8
    obtain ⟨K, hK, rfl, hrow, hB⟩ := hrel
    by_cases hlt : K < n
    · obtain ⟨x, hx⟩ : ∃ x, o[K]? = some x := ⟨_, List.getElem?_eq_getElem (by have := HOL.out; omega)⟩
      have hxn : x < n := HTO.out.lt x (List.mem_iff_getElem?.2 ⟨K, hx⟩)
      obtain ⟨go, rfl, y0⟩ := list_cell (own_below hown hB) hlt hx
      have z0 := hrow.cell hxn
      have z1 := hrow.frozen x
      rw [show nvals (plc o K) x = .int .i64 0 by unfold nvals; rw [plc_new HTO.out.nodup hx]; rfl] at z0
      have d1 : decide ((x : Int) < 0) = false := decide_eq_false (by omega)
      have d2 : decide ((n : Int) ≤ (x : Int)) = false := decide_eq_false (by omega)
      have HX : Hid (o[K]? = some x) := hx
      clear hx
      go_wp2_with fail
      go_roundw
      case rel =>
        refine ⟨K + 1, by omega, by go_num, (hrow.set x _).congr (fun k _ => ?_), hB.setCell (p := ⟨w7.heap.size, x, none⟩) (Nat.le_refl _) _⟩
        unfold nvals
        rw [show plc o (K + 1) k = (if o[K]? = some k then K + 1 else plc o K k) from rfl]
        by_cases e : k = x
        · rw [if_pos e, e, if_pos HX.out]; rfl
        · rw [if_neg e, if_neg (fun h => e (by rw [HX.out] at h; injection h with h; exact h.symm))]
      case measure => simp [intOf]; omega
    · obtain rfl : K = n := by omega
      obtain ⟨W9, rfl⟩ : ∃ W9, W9 = wr := ⟨_, rfl⟩
      go_wp2_with fail
      go_loopw [12, 13, 91, 95] (fun _ _ i _ w2 => ∃ I : Nat, I ≤ K ∧ i = .int .i64 I ∧ Below W9.heap.size W9 w2) (fun _ _ i _ _ => K - (intOf i).toNat)
      case atStart => exact ⟨0, by omega, rfl, Below.refl _ _⟩
      case round =>
        obtain ⟨I, hI, rfl, hC⟩ := hrel
        by_cases hlt2 : I < K
        · go_wp2_with fail
          obtain ⟨W10, rfl⟩ : ∃ W10, W10 = wr := ⟨_, rfl⟩
          go_loopw [13, 95] (fun _ i w2 => ∃ D : Nat, D ≤ K ∧ i = .int .i64 D ∧ Below W9.heap.size W9 w2) (fun _ i _ => K - (intOf i).toNat)
          case atStart => exact ⟨0, by omega, rfl, hC⟩
          case round =>
            clear hC
            obtain ⟨D, hD, rfl, hC⟩ := hrel
            by_cases hlt3 : D < K
            · have hBTw := hBT.below (below_next hB hC)
              obtain ⟨gT, rfl, _, y0⟩ := hBTw.cell hlt2
              have y1 := (hBTw.r I hlt2).cell hlt3
              have z0 := (row_below hrow hC).cell hlt2
              have z1 := (row_below hrow hC).cell hlt3
              replace z0 : wr.cell? ⟨w7.heap.size, I, none⟩ = some (.int .i64 (plc o K I : Nat)) := z0
              replace z1 : wr.cell? ⟨w7.heap.size, D, none⟩ = some (.int .i64 (plc o K D : Nat)) := z1
              clear hBTw
              by_cases hT2 : mat R I D = true
              · have hlp := topo_place HTO.out HOL.out hlt2 hlt3 hT2
                rw [hT2] at y1
                clear hT2
                generalize plc o K I = a at *
                generalize plc o K D = b at *
                have d1 : decide ((b : Int) ≤ (a : Int)) = false := decide_eq_false (by omega)
                go_wp2_with fail
                go_quiet (fail)
                go_wp2_with fail
                go_roundw
                case rel => exact ⟨D + 1, by omega, by go_num, below_drewN hC _⟩
                case measure => simp [intOf]; omega
              · rw [show mat R I D = false by simpa using hT2] at y1
                clear hT2
                go_wp2_with fail
                go_quiet (fail)
                go_wp2_with fail
                go_roundw
                case rel => exact ⟨D + 1, by omega, by go_num, below_drewN hC _⟩
                case measure => simp [intOf]; omega
            · go_wp2_with fail
              go_roundw
              case rel => exact ⟨I + 1, by omega, by go_num, hC⟩
              case measure => simp [intOf]; omega
        · go_wp2_with fail
          go_ret
          exact ⟨rfl, below_next b7 (Below.trans hB (hC.mono (by have := hB.size; exact this)))⟩
set_option maxRecDepth 100000 in
set_option maxHeartbeats 16000000 in
theorem ei_cyc (A : Option Addr) (n ca : Nat) (R : Nat → RowD) (w : World) (hx : Rel w A n R) (hT : Tab w) (hg : ¬ Great n R) (vx : VRel n R) (ho : orderOf n (mat R) = none) :
    Calls Tryd.prog 8 #[.agg #[.slice A n ca]] w fun e w' => e = .returned (.bool true) ∧ Below w.heap.size w w' := by
  have hn := vx.1
  have HG := Lib.hid hg; clear hg
  have VX := Lib.hid vx; clear vx
  obtain ⟨s, hs⟩ := cyc_first ho
  have HO := Lib.hid ho; clear ho
  have hmk := make_bools n (by omega)
  have hT0 : RelAt (w.alloc (.cells #[.slice A n ca] 24)) w.heap.size A n ca := relAt_new w A n ca
  have b0 : Below w.heap.size w (w.alloc (.cells #[.slice A n ca] 24)) := (Below.refl _ _).alloc (Nat.le_refl _) _
  have HH := Lib.hid hx; clear hx
  go_enter Tryd.func8, Tryd.ntmps8
  go_wp2_with fail
  refine (awake_any _ (hT.below b0)).mono ?_; rintro e w1 ⟨rfl, k1⟩
  have r1 := hT0.below k1
  have b1 := below_next b0 k1
  clear hT0 b0 k1
  have c0 := r1.c0
  go_wp2_with fail
  clear c0
  refine (great_any w1.heap.size 1 (fun _ => ⟨A, n, ca, R⟩) false _ (rels_one w1 (fun _ => ⟨A, n, ca, R⟩) (HH.out.below b1)) (by decide) (Or.inr ⟨rfl, fun _ _ => HG.out⟩)).mono ?_; rintro e w2 ⟨rfl, k2⟩
  have k2' := ((Below.refl w1.heap.size w1).alloc (Nat.le_refl _) (.cells #[.slice A n ca] 24)).trans (k2.mono (by simp))
  have r2 := r1.below k2'
  have b2 := below_next b1 k2'
  clear r1 b1 k2 k2'
  have c0 := r2.c0
  go_wp2_with fail
  clear c0
  refine (refValid_yes A n ca R _ (HH.out.below b2) VX.out).mono ?_; rintro e w3 ⟨rfl, k3⟩
  have r3 := r2.below k3
  have b3 := below_next b2 k3
  clear r2 b2 k3
  have c0 := r3.c0
  go_wp2_with fail
  clear c0
  refine (table_any A n ca R _ (HH.out.below b3) VX.out).mono ?_; rintro e w4 ⟨vT, B, C, rfl, hBT, k4⟩
  replace hBT := hBT.mono (Nat.zero_le _)
  obtain ⟨AT, cT, rfl⟩ := hBT.form
  have r4 := r3.below k4
  have b4 := below_next b3 k4
  clear r3 b3 k4
  have c0 := r4.c0
  go_wp2_with fail
  clear c0
  refine (order_no (HH.out.below b4) VX.out (hT.below b4) HO.out).mono ?_; rintro e w5 ⟨rfl, k5⟩
  replace hBT := hBT.below k5
  have r5 := r4.below k5
  have b5 := below_next b4 k5
  clear r4 b4 k5
  have c0 := r5.c0
  have HS := Lib.hid hs; clear hs
  go_wp2_with fail
  clear c0
  refine (cycle_yes (HH.out.below b5) VX.out (hT.below b5) HS.out).mono ?_; rintro e w6 ⟨AO, cO, rfl, hown, k6⟩
  replace hown := own_mono hown (Nat.zero_le _)
  have hcy := cyc_of HS.out
  generalize cycleFrom (mat R) n s = c at *
  have hL0 := hcy.pos
  have hLn := hcy.len
  have HC := Lib.hid hcy; clear hcy
  obtain ⟨L, hL⟩ : ∃ L, L = c.length := ⟨_, rfl⟩
  have HL := Lib.hid hL
  rw [← hL] at hown hL0 hLn ⊢
  clear hL
  have q0 : ((L : Int) == 0) = false := beq_false_of_ne (by omega)
  have q1 : decide ((n : Int) < (L : Int)) = false := decide_eq_false (by omega)
  have q2 : decide (n < L) = false := decide_eq_false (by omega)
  replace hBT := hBT.below k6
  have r6 := r5.below k6
  have b6 := below_next b5 k6
  clear r5 b5 k6
  have c0 := r6.c0
  go_wp2_with fail
  clear c0
  refine (acyclic_ok A n ca R _ (HH.out.below b6) VX.out (hT.below b6)).mono ?_; rintro e w7 ⟨rfl, k7⟩
  rw [show (orderOf n (mat R)).isSome = false by rw [HO.out]; rfl]
  replace hown := own_below hown k7
  replace hBT := hBT.below k7
  have b7 := below_next b6 k7
  clear r6 b6 k7
  go_wp2_with fail
  have hrow : (w7.alloc (.cells (madeCells #[.bool false] n) 4)).rowIs w7.heap.size 4 n (fun k => .bool (sn c 0 k)) := World.rowIs_made w7 (.bool false) n 4
  have k8 := (Below.refl w7.heap.size w7).alloc (Nat.le_refl _) (.cells (madeCells #[.bool false] n) 4)
  clear hmk
  generalize w7.alloc (.cells (madeCells #[.bool false] n) 4) = W8 at *
  go_loopw [15, 16, 17, 131] (fun _ _ _ i wr => ∃ K : Nat, K ≤ L ∧ i = .int .i64 K ∧ wr.rowIs w7.heap.size 4 n (fun k => .bool (sn c K k)) ∧ Below w7.heap.size w7 wr) (fun _ _ _ i _ => L - (intOf i).toNat)
  case atStart => exact ⟨0, by omega, rfl, hrow, k8⟩
  case round =>
    clear hrow k8
    obtain ⟨K, hK, rfl, hrow, hB⟩ := hrel
    by_cases hlt : K < L
    · obtain ⟨x, hx⟩ : ∃ x, c[K]? = some x := ⟨_, List.getElem?_eq_getElem (by have := HL.out; omega)⟩
      obtain ⟨q, hq⟩ : ∃ q, q = (K + 1) % L := ⟨_, rfl⟩
      have hqL : q < L := by rw [hq]; exact Nat.mod_lt _ hL0
      obtain ⟨y, hy⟩ : ∃ y, c[q]? = some y := ⟨_, List.getElem?_eq_getElem (by have := HL.out; omega)⟩
      have hT2 : mat R x y = true := HC.out.edge K x y hx (by rw [← HL.out, ← hq]; exact hy)
      have hxn := HC.out.lt K x hx
      have hyn := HC.out.lt q y hy
      have hsx := HC.out.least K x hx
      have hq1 : ((K : Int) + 1).tmod (L : Int) = (q : Int) := by
        rw [Int.tmod_eq_emod_of_nonneg (by omega), hq]; simp
      have hq2 : ((K : Int) + 1) % (L : Int) = (q : Int) := by rw [hq]; simp
      have hownw := own_below hown hB
      obtain ⟨go, rfl, y0⟩ := list_cell hownw hlt hx
      have y1 := (hownw.cellAt q (by omega)).trans (vals_get hy)
      have y2 := (hownw.cellAt 0 (by omega)).trans (vals_get HC.out.first)
      have z0 := hrow.cell hxn
      have z1 := hrow.frozen x
      rw [HC.out.new hx] at z0
      have hBTw := hBT.below hB
      obtain ⟨gT, rfl, _, t0⟩ := hBTw.cell hxn
      have t1 := (hBTw.r x hxn).cell hyn
      rw [hT2] at t1
      have d1 : decide ((x : Int) < 0) = false := decide_eq_false (by omega)
      have d2 : decide ((n : Int) ≤ (x : Int)) = false := decide_eq_false (by omega)
      have d3 : decide ((y : Int) < 0) = false := decide_eq_false (by omega)
      have d4 : decide ((n : Int) ≤ (y : Int)) = false := decide_eq_false (by omega)
      have d5 : decide ((x : Int) < (s : Int)) = false := decide_eq_false (by omega)
      have d6 : decide (n ≤ x) = false := decide_eq_false (by omega)
      have d7 : decide (n ≤ y) = false := decide_eq_false (by omega)
      have d8 : decide (x < s) = false := decide_eq_false (by omega)
      have HX : Hid (c[K]? = some x) := hx
      clear hx hy hq hT2 hBTw hownw
      go_wp2_with fail
      go_roundw
      case rel =>
        refine ⟨K + 1, by omega, by go_num, (hrow.set x _).congr (fun k _ => ?_), hB.setCell (p := ⟨w7.heap.size, x, none⟩) (Nat.le_refl _) _⟩
        rw [show sn c (K + 1) k = (if c[K]? = some k then true else sn c K k) from rfl]
        by_cases e : k = x
        · rw [if_pos e, e, if_pos HX.out]
        · rw [if_neg e, if_neg (fun h => e (by rw [HX.out] at h; injection h with h; exact h.symm))]
      case measure => simp [intOf]; omega
    · obtain rfl : K = L := by omega
      go_wp2_with fail
      go_ret
      exact ⟨rfl, below_next b7 hB⟩
theorem ei_law (x : RelD) (w : World) (hx : Rel w x.A x.n x.R) (hT : Tab w) :
    Calls Tryd.prog 8 #[.agg #[.slice x.A x.n x.c]] w fun e w' => e = .returned (.bool true) ∧ Below w.heap.size w w' := by
  obtain ⟨A, n, ca, R⟩ := x
  by_cases hg : Great n R
  · exact ei_big A n ca R w hx hT hg
  · by_cases vx : VRel n R
    · cases ho : orderOf n (mat R)
      · exact ei_cyc A n ca R w hx hT hg vx ho
      · exact ei_acy A n ca R w hx hT hg vx _ ho
    · exact ei_nv A n ca R w hx hT hg vx
end Go.Proofs.YtfjikeejifhnbaaDoor
