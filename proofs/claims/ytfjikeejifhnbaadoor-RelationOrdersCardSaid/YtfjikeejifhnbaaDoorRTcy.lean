/- The reference's Cycle of a table. -/
import Derived.Test.YtfjikeejifhnbaaDoorLCyM
namespace Go.Proofs.YtfjikeejifhnbaaDoor
open Go.RowKit
set_option maxRecDepth 100000 in
set_option maxHeartbeats 16000000 in
theorem refCycle_any (v0 : Value) (n : Nat) (B0 C0 : Nat → Nat) (T : Nat → Nat → Bool) (s : Nat) (w : World) (h : BTab w 0 v0 n n B0 C0 T) (hn : n ≤ 512) (hs : firstCyc n T = some s) :
    Calls Tryd.prog 35 #[v0] w fun e w' => ∃ v, e = .returned v ∧ w'.ownsRow w.heap.size 3 1 v (cycleFrom T n s).length (vals (cycleFrom T n s)) ∧ Below w.heap.size w w' := by
  obtain ⟨A, c, rfl⟩ := h.form
  have HH := Lib.hid h; clear h
  obtain ⟨hsn, hcs, hmin⟩ := firstCyc_some.1 hs
  have hds : dist T n s s ≠ 0 := dist_pos hsn hsn hcs
  obtain ⟨vd, hvd⟩ : ∃ vd, dist T n s s = vd + 1 := ⟨dist T n s s - 1, by omega⟩
  have hvn : vd + 1 ≤ n := by rw [← hvd]; exact (dist_spec hds).1
  have hcf : Hid (cycleFrom T n s = s :: pathL T n (dist T n s) vd s) := by
    show cycleFrom T n s = _
    unfold cycleFrom; rw [hvd]; rfl
  have HVD := Lib.hid hvd
  have HCS := Lib.hid hcs
  have HMIN := Lib.hid hmin
  clear hs hds hvd hcs hmin
  have hmk := make_ints n (by omega)
  go_enter Tryd.func35, Tryd.ntmps35
  go_wp2_with fail
  refine (refClosure_any _ n B0 C0 T w HH.out hn).mono ?_; rintro e w1 ⟨v1, B1, C1, rfl, hC, b1⟩
  obtain ⟨A1, c1, rfl⟩ := hC.form
  have H1 : Hid (BTab w1 0 (.slice A c n) n n B0 C0 T) → True := fun _ => trivial
  clear H1
  go_wp2_with fail
  go_loopw [5] (fun i wr => ∃ I : Nat, I ≤ s ∧ i = .int .i64 I ∧ Below w1.heap.size w1 wr) (fun i _ => n - (intOf i).toNat)
  case atStart => exact ⟨0, by omega, rfl, Below.refl _ _⟩
  case round =>
    obtain ⟨I, hI, rfl, hB⟩ := hrel
    have hIn : I < n := by omega
    have HB := hC.below hB
    obtain ⟨gC, rfl, _, y0⟩ := HB.cell hIn
    have y1 := (HB.r I hIn).cell hIn
    clear HB
    by_cases hIs : I < s
    · rw [HMIN.out I hIs] at y1
      go_wp2_with fail
      go_roundw
      case rel => exact ⟨I + 1, by omega, by go_num, hB⟩
      case measure => simp [intOf]; omega
    · obtain rfl : I = s := by omega
      rw [HCS.out] at y1
      have bW := below_next b1 hB
      clear hC hB
      obtain ⟨W2, rfl⟩ : ∃ W2, W2 = wr := ⟨_, rfl⟩
      have hrow := (World.rowIs_made W2 (.int .i64 0) n 3).congr (g := nvals fun x => if x < 0 then far0 T n I x else 0) (fun x _ => by simp [nvals])
      have b2 := bW.alloc bW.size (.cells (madeCells #[.int .i64 0] n) 3)
      have hgw : w.heap.size ≤ W2.heap.size := bW.size
      go_wp2_with fail
      clear y0 y1 hmk
      generalize W2.heap.size = g at *
      generalize W2.alloc (.cells (madeCells #[.int .i64 0] n) 3) = W3 at *
      go_loopw [7] (fun i w2 => ∃ D : Nat, D ≤ n ∧ i = .int .i64 D ∧ w2.rowIs g 3 n (nvals fun x => if x < D then far0 T n I x else 0) ∧ Below w.heap.size w w2) (fun i _ => n - (intOf i).toNat)
      case atStart => exact ⟨0, by omega, rfl, hrow, b2⟩
      case round =>
        clear hrow b2
        obtain ⟨D, hD, rfl, hrow, hB⟩ := hrel
        by_cases hlt : D < n
        · have z0 := hrow.cell hlt
          have z1 := hrow.frozen D
          have hrow2 := hrow.set D (.int .i64 ((n : Int) + 1))
          have hB2 := hB.setCell (p := ⟨g, D, none⟩) hgw (.int .i64 ((n : Int) + 1))
          have hwrap : IntKind.i64.wrap ((n : Int) + 1) = (n : Int) + 1 := IntWalk.i64_in _ (by omega)
          have HB := HH.out.below hB2
          obtain ⟨gT, rfl, _, y0⟩ := HB.cell hlt
          have y1 := (HB.r D hlt).cell hIn
          have x0 := hrow2.cell hlt
          rw [if_pos rfl] at x0
          have x1 := hrow2.frozen D
          clear HB
          generalize nvals (fun x => if x < D then far0 T n I x else 0) D = zv at z0
          cases hT : T D I
          · rw [hT] at y1
            have HTT := Lib.hid hT
            clear hT
            go_wp2_with fail
            go_roundw
            case rel =>
              refine ⟨D + 1, by omega, by go_num, hrow2.congr (fun x _ => ?_), hB2⟩
              simp only [nvals]
              by_cases e : x = D
              · rw [if_pos e, if_pos (by omega), e]; unfold far0; rw [HTT.out]; simp
              · rw [if_neg e]
                by_cases e2 : x < D
                · rw [if_pos e2, if_pos (by omega)]
                · rw [if_neg e2, if_neg (by omega)]
            case measure => simp [intOf]; omega
          · rw [hT] at y1
            have HTT := Lib.hid hT
            clear hT
            go_wp2_with fail
            go_roundw
            case rel =>
              refine ⟨D + 1, by omega, by go_num, (hrow2.set D _).congr (fun x _ => ?_), hB2.setCell (p := ⟨g, D, none⟩) hgw _⟩
              simp only [nvals]
              by_cases e : x = D
              · rw [if_pos e, if_pos (by omega), e]; unfold far0; rw [HTT.out]; simp
              · rw [if_neg e, if_neg e]
                by_cases e2 : x < D
                · rw [if_pos e2, if_pos (by omega)]
                · rw [if_neg e2, if_neg (by omega)]
            case measure => simp [intOf]; omega
        · obtain rfl : D = n := by omega
          have hrow3 := hrow.congr (g := nvals (far0 T D I)) (fun x hx => by simp only [nvals]; rw [if_pos hx])
          have hBF : Hid (BF T D I 0 0 0 (far0 T D I)) := bf_start hsn
          clear hrow
          go_wp2_with fail
          go_loopw [8, 9, 10] (fun k _ _ w2 => ∃ (K : Nat) (f : Nat → Nat), K ≤ D ∧ k = .int .i64 K ∧ Hid (BF T D I K 0 0 f) ∧ w2.rowIs g 3 D (nvals f) ∧ Below w.heap.size w w2) (fun k _ _ _ => D - (intOf k).toNat)
          case atStart => exact ⟨0, _, by omega, rfl, hBF, hrow3, hB⟩
          case round =>
            clear hBF hrow3 hB
            obtain ⟨K, f, hK, rfl, hBF, hrow, hB⟩ := hrel
            by_cases hltK : K < D
            · go_wp2_with fail
              go_loopw [9, 10] (fun i _ w2 => ∃ (J : Nat) (f : Nat → Nat), J ≤ D ∧ i = .int .i64 J ∧ Hid (BF T D I K J 0 f) ∧ w2.rowIs g 3 D (nvals f) ∧ Below w.heap.size w w2) (fun i _ _ => D - (intOf i).toNat)
              case atStart => exact ⟨0, _, by omega, rfl, hBF, hrow, hB⟩
              case round =>
                clear hBF hrow hB
                obtain ⟨J, f, hJ, rfl, hBF, hrow, hB⟩ := hrel
                by_cases hltJ : J < D
                · go_wp2_with fail
                  go_loopw [10] (fun j w2 => ∃ (E : Nat) (f : Nat → Nat), E ≤ D ∧ j = .int .i64 E ∧ Hid (BF T D I K J E f) ∧ w2.rowIs g 3 D (nvals f) ∧ Below w.heap.size w w2) (fun j _ => D - (intOf j).toNat)
                  case atStart => exact ⟨0, _, by omega, rfl, hBF, hrow, hB⟩
                  case round =>
                    clear hBF hrow hB
                    obtain ⟨E, f, hE, rfl, hBF, hrow, hB⟩ := hrel
                    by_cases hltE : E < D
                    · have HB := HH.out.below hB
                      obtain ⟨gT, rfl, _, y0⟩ := HB.cell hltJ
                      have y1 := (HB.r J hltJ).cell hltE
                      clear HB
                      cases hT : T J E
                      · rw [hT] at y1
                        have hBF2 : Hid (BF T D I K J (E + 1) f) := hBF.out.no hT
                        clear hT
                        go_wp2_with fail
                        go_quiet (fail)
                        go_wp2_with fail
                        go_roundw
                        case rel => exact ⟨E + 1, f, by omega, by go_num, hBF2, hrow.drew, below_drewN hB _⟩
                        case measure => simp [intOf]; omega
                      · rw [hT] at y1
                        have z0 := hrow.cell hltE
                        have z1 := hrow.cell hltJ
                        have z2 := hrow.frozen J
                        replace z0 : wr.cell? ⟨g, E, none⟩ = some (.int .i64 (f E : Nat)) := z0
                        replace z1 : wr.cell? ⟨g, J, none⟩ = some (.int .i64 (f J : Nat)) := z1
                        have l1 := hBF.out.le hltE
                        have l2 := hBF.out.le hltJ
                        have hwrap : IntKind.i64.wrap (((f E : Nat) : Int) + 1) = ((f E : Nat) : Int) + 1 := IntWalk.i64_in _ (by omega)
                        by_cases hc : f E + 1 < f J
                        · have hBF2 : Hid (BF T D I K J (E + 1) (fun x => if x = J then f E + 1 else f x)) := hBF.out.set hltJ hltE hT hc
                          have d1 : decide (((f E : Nat) : Int) + 1 < ((f J : Nat) : Int)) = true := decide_eq_true (by omega)
                          have d2 : decide (f E + 1 < f J) = true := decide_eq_true hc
                          clear hT hc l1 l2
                          go_wp2_with fail
                          go_quiet (fail)
                          go_wp2_with fail
                          go_roundw
                          case rel =>
                            refine ⟨E + 1, _, by omega, by go_num, hBF2, (World.rowIs.set (w := wr.drewN _) hrow J _).congr (fun x _ => ?_), (below_drewN hB _).setCell (p := ⟨g, J, none⟩) hgw _⟩
                            simp only [nvals]
                            by_cases e : x = J
                            · rw [if_pos e, if_pos e]; simp
                            · rw [if_neg e, if_neg e]
                          case measure => simp [intOf]; omega
                        · have hBF2 : Hid (BF T D I K J (E + 1) f) := hBF.out.keep hltE hc
                          have d1 : decide (((f E : Nat) : Int) + 1 < ((f J : Nat) : Int)) = false := decide_eq_false (by omega)
                          have d2 : decide (f E + 1 < f J) = false := decide_eq_false hc
                          clear hT hc l1 l2
                          go_wp2_with fail
                          go_quiet (fail)
                          go_wp2_with fail
                          go_roundw
                          case rel => exact ⟨E + 1, f, by omega, by go_num, hBF2, hrow.drew, below_drewN hB _⟩
                          case measure => simp [intOf]; omega
                    · obtain rfl : E = D := by omega
                      have hBF2 : Hid (BF T E I K (J + 1) 0 f) := hBF.out.row hltJ
                      go_wp2_with fail
                      go_roundw
                      case rel => exact ⟨J + 1, f, by omega, by go_num, hBF2, hrow, hB⟩
                      case measure => simp [intOf]; omega
                · obtain rfl : J = D := by omega
                  have hBF2 : Hid (BF T J I (K + 1) 0 0 f) := hBF.out.round
                  go_wp2_with fail
                  go_roundw
                  case rel => exact ⟨K + 1, f, by omega, by go_num, hBF2, hrow, hB⟩
                  case measure => simp [intOf]; omega
            · obtain rfl : K = D := by omega
              have hfar : Hid (∀ i, i < K → f i = if dist T K I i = 0 then K + 1 else dist T K I i) := fun i hi => hBF.out.far hi
              have hfI : f I = vd + 1 := by
                have e := HVD.out
                rw [hfar.out I hIn, if_neg (by omega), e]
              have hgb : g + 1 ≤ wr.heap.size := by have := hrow.lt; omega
              have bP : Below wr.heap.size wr (wr.alloc (.cells #[.int .i64 (I : Int)] 3)) := (Below.refl _ _).alloc (Nat.le_refl _) _
              have hrowA := row_below hrow bP
              have z0 := hrowA.cell hIn
              replace z0 : (wr.alloc (.cells #[.int .i64 (I : Int)] 3)).cell? ⟨g, I, none⟩ = some (.int .i64 (f I : Nat)) := z0
              rw [hfI] at z0
              have hown := World.ownsRow_lit (base := g + 1) (e := 3) (size := 1) wr #[.int .i64 (I : Int)] 1 hgb (by decide) rfl
              have BA := below_next hB bP
              have hw1 : IntKind.i64.wrap (((vd + 1 : Nat) : Int) - 1) = (vd : Int) := by rw [show ((vd + 1 : Nat) : Int) - 1 = (vd : Int) by omega]; exact IntWalk.i64_in _ (by omega)
              have hw2 : IntKind.i64.wrap ((vd : Int) + 1 - 1) = (vd : Int) := by rw [show (vd : Int) + 1 - 1 = (vd : Int) by omega]; exact IntWalk.i64_in _ (by omega)
              have hst : Hid (I < K ∧ dist T K I I = vd + 1 ∧ [I] ++ pathL T K (dist T K I) vd I = cycleFrom T K I) := ⟨hIn, HVD.out, by rw [hcf.out]; rfl⟩
              clear hrow hB hBF bP hfI
              go_wp2_with fail
              clear z0
              generalize wr.alloc (.cells #[.int .i64 (I : Int)] 3) = WA at *
              clear hw1 hw2
              go_loopw [11, 12, 13, 14] (fun x a l _ w2 => ∃ (o : List Nat) (at_ v : Nat) (vv : Value), vv = x ∧ a = .int .i64 at_ ∧ l = .int .i64 v ∧ Hid (at_ < K ∧ dist T K I at_ = v + 1 ∧ o ++ pathL T K (dist T K I) v at_ = cycleFrom T K I) ∧ o.length + v = vd + 1 ∧ w2.rowIs g 3 K (nvals f) ∧ w2.ownsRow (g + 1) 3 1 vv o.length (vals o) ∧ Below w.heap.size w w2) (fun _ _ l _ _ => (intOf l).toNat)
              case atStart => exact ⟨[I], I, vd, _, rfl, rfl, rfl, hst, by simp; omega, hrowA, hown, BA⟩
              case round =>
                clear hst hrowA hown BA
                obtain ⟨o, a, v, vv, rfl, rfl, rfl, hst, hlen, hrow, hown, hB⟩ := hrel
                obtain ⟨Ao, co, rfl, _⟩ := own_ints hown
                by_cases hv0 : 0 < v
                · obtain ⟨v', hv'⟩ : ∃ v', v = v' + 1 := ⟨v - 1, by omega⟩
                  subst hv'
                  obtain ⟨hak, hda, hpa⟩ := hst.out
                  obtain ⟨j, hj, hj1, hj2⟩ := dist_step hda (by omega)
                  obtain ⟨hX, hX1, hX2, hX3⟩ := nxt_spec (d := dist T K I) hj hj1 hj2
                  replace hpa : o ++ (nxt T K (dist T K I) a (v' + 1) :: pathL T K (dist T K I) v' (nxt T K (dist T K I) a (v' + 1))) = cycleFrom T K I := hpa
                  generalize nxt T K (dist T K I) a (v' + 1) = X at *
                  have hst2 : Hid (X < K ∧ dist T K I X = v' + 1 ∧ (o ++ [X]) ++ pathL T K (dist T K I) v' X = cycleFrom T K I) := ⟨hX, hX2, by rw [List.append_assoc]; exact hpa⟩
                  have hX3' := Lib.hid hX3
                  have HX1 := Lib.hid hX1
                  have HX2 := Lib.hid hX2
                  clear hst hda hpa hj hj1 hj2 hX1 hX2 hX3
                  have hvK : v' + 1 ≤ K := by omega
                  obtain ⟨Wc, rfl⟩ : ∃ Wc, Wc = wr := ⟨_, rfl⟩
                  have hwrv : IntKind.i64.wrap (((v' + 1 : Nat) : Int) - 1) = (v' : Int) := by rw [show ((v' + 1 : Nat) : Int) - 1 = (v' : Int) by omega]; exact IntWalk.i64_in _ (by omega)
                  go_wp2_with fail
                  go_loopw [14] (fun i w2 => ∃ N : Nat, N ≤ X ∧ i = .int .i64 N ∧ Below Wc.heap.size Wc w2) (fun i _ => K - (intOf i).toNat)
                  case atStart => exact ⟨0, by omega, rfl, Below.refl _ _⟩
                  case round =>
                    obtain ⟨N, hN, rfl, hC⟩ := hrel
                    have hNk : N < K := by omega
                    have HB := HH.out.below (below_next hB hC)
                    obtain ⟨gT, rfl, _, y0⟩ := HB.cell hak
                    have y1 := (HB.r a hak).cell hNk
                    clear HB
                    have z0 := (row_below hrow hC).cell hNk
                    replace z0 : wr.cell? ⟨g, N, none⟩ = some (.int .i64 (f N : Nat)) := z0
                    by_cases hNX : N < X
                    · cases hT : T a N
                      · rw [hT] at y1
                        clear hT z0
                        go_wp2_with fail
                        go_roundw
                        case rel => exact ⟨N + 1, by omega, by go_num, hC⟩
                        case measure => simp [intOf]; omega
                      · rw [hT] at y1
                        have hfN : f N ≠ v' + 1 := fun e => hX3'.out N hNX ⟨hT, by
                          have := hfar.out N hNk
                          rw [e] at this
                          split at this
                          · omega
                          · exact this.symm⟩
                        clear hT
                        generalize f N = y at *
                        have e1 : ((y : Int) == ((v' + 1 : Nat) : Int)) = false := beq_false_of_ne (by omega)
                        have e2 : ((y : Int) != ((v' + 1 : Nat) : Int)) = true := by simp only [bne, e1]; rfl
                        have e3 : ((y : Int) == (v' : Int) + 1) = false := beq_false_of_ne (by omega)
                        have e4 : ((y : Int) != (v' : Int) + 1) = true := by simp only [bne, e3]; rfl
                        go_wp2_with fail
                        go_roundw
                        case rel => exact ⟨N + 1, by omega, by go_num, hC⟩
                        case measure => simp [intOf]; omega
                    · obtain rfl : N = X := by omega
                      rw [HX1.out] at y1
                      have hfN : f N = v' + 1 := by
                        rw [hfar.out N hNk, if_neg (by have := HX2.out; omega)]; exact HX2.out
                      rw [hfN] at z0
                      have hrowC := row_below hrow hC
                      have hownC := own_below hown hC
                      have hBC := below_next hB hC
                      clear hfN hrow hown hB hC
                      have e2 : (((v' + 1 : Nat) : Int) != ((v' + 1 : Nat) : Int)) = false := by simp
                      have e4 : ((v' : Int) + 1 != (v' : Int) + 1) = false := by simp
                      have bP : Below wr.heap.size wr (wr.alloc (.cells #[.int .i64 (N : Int)] 3)) := (Below.refl _ _).alloc (Nat.le_refl _) _
                      have hownA := own_below hownC bP
                      have hgb2 : g + 1 ≤ wr.heap.size := by have := hrowC.lt; omega
                      go_wp2_with (at_builtin; refine append_nat rfl (.tmp 123) (.tmp 125) rfl (g + 1) (.slice Ao o.length co) o N N _ rfl hownA wr.heap.size rfl (heap_alloc_new _ _) rfl (by omega) (by simp; omega) ?_)
                      intro g' cap w5 hown5 hg5 _
                      have B5 := grown_below2 (below_next hBC bP) hownA (by omega) hg5
                      have hrA := row_below hrowC bP
                      have hrow5 := hrA.of_block (hg5.block g hrA.lt (fun e => by have := (hownA.lt _ e.symm).1; omega))
                      clear y0 y1 z0 hrowC hownC hownA bP hrA
                      go_wp2_with fail
                      go_roundw
                      case rel => exact ⟨o ++ [N], N, v', _, rfl, rfl, by go_num, hst2, by rw [List.length_append]; simp; omega, hrow5, by rw [List.length_append]; exact hown5, B5⟩
                      case measure => simp [intOf]
                · obtain rfl : v = 0 := by omega
                  have hcyc : o = cycleFrom T K I := by have := hst.out.2.2; simpa [pathL] using this
                  go_wp2_with fail
                  go_ret
                  exact ⟨_, rfl, by rw [← hcyc]; exact own_mono hown (by omega), hB⟩
end Go.Proofs.YtfjikeejifhnbaaDoor
