/- The reference's Max, walked: ways are added as long as there are some. -/
import Derived.Test.YtjdceafkcakbjaaFReb
import Derived.Test.YtjdceafkcakbjaaFMxM
namespace Go.Proofs.Ytjdceafkcakbjaa
open Go.RowKit
def readI (w : World) (g k : Nat) : Int := intOf ((w.cell? ⟨g, k, none⟩).getD (.int .i64 0))
def leftF (N : Net) (s : Nat) (w : World) (g : Nat) : Nat := (sumTo N.m N.cp - N.bal (readI w g) s).toNat
theorem leftF_eq {w : World} {N : Net} {g : Nat} {F : Nat → Int} (h : w.rowIs g 3 N.m (ivals F)) (s : Nat) : leftF N s w g = (sumTo N.m N.cp - N.bal F s).toNat := by
  unfold leftF
  rw [Net.bal_congr (h := F) (fun i hi => by unfold readI; rw [h.cell hi]; rfl)]
def RMaxEnd (w : World) (N : Net) (s t : Nat) (e : Ending) (w' : World) : Prop :=
  ∃ g F, e = .returned (.slice (some ⟨g, 0, none⟩) N.m N.m) ∧ w'.rowIs g 3 N.m (ivals F) ∧ N.Done s t (resid N.cp F) ∧ w.heap.size ≤ g ∧ Below w.heap.size w w'
structure MxAt (w wx : World) (n m c gB : Nat) (A : Option Addr) (F b : Nat → Int) : Prop where
  net : NetAt wx w.heap.size n A m c
  fl : wx.rowIs (w.heap.size + 1) 3 m (ivals F)
  by_ : wx.rowIs gB 3 n (ivals b)
  bl : Below w.heap.size w wx
  gb : w.heap.size + 1 < gB
theorem MxAt.drewN {w wx : World} {n m c gB : Nat} {A : Option Addr} {F b : Nat → Int} (h : MxAt w wx n m c gB A F b) (k : Nat) : MxAt w (wx.drewN k) n m c gB A F b := ⟨h.net, h.fl, h.by_, below_drewN h.bl k, h.gb⟩
theorem MxAt.drew {w wx : World} {n m c gB : Nat} {A : Option Addr} {F b : Nat → Int} (h : MxAt w wx n m c gB A F b) : MxAt w wx.drew n m c gB A F b := ⟨h.net, h.fl, h.by_, h.bl.drew, h.gb⟩
theorem MxAt.set {w wx : World} {n m c gB : Nat} {A : Option Addr} {F F' b : Nat → Int} {k : Nat} {x : Int} (h : MxAt w wx n m c gB A F b) (e : ∀ j, up F k x j = F' j) : MxAt w (wx.setCell ⟨w.heap.size + 1, k, none⟩ (.int .i64 x)) n m c gB A F' b :=
  ⟨h.net.far (by show w.heap.size ≠ w.heap.size + 1; omega) _, ivals_set h.fl e, h.by_.setOther (by show gB ≠ w.heap.size + 1; have := h.gb; omega) _, h.bl.setCell (by show w.heap.size ≤ w.heap.size + 1; omega) _, h.gb⟩
theorem MxAt.cells {w wx : World} {n m c gB : Nat} {A : Option Addr} {F b : Nat → Int} (h : MxAt w wx n m c gB A F b) : wx.cell? ⟨w.heap.size, 1, none⟩ = some (.slice A m c) := h.net.c1
theorem MxAt.fc {w wx : World} {n m c gB : Nat} {A : Option Addr} {F b : Nat → Int} (h : MxAt w wx n m c gB A F b) {k : Nat} (hk : k < m) : wx.cell? ⟨w.heap.size + 1, k, none⟩ = some (.int .i64 (F k)) := h.fl.cell hk
theorem MxAt.bc {w wx : World} {n m c gB : Nat} {A : Option Addr} {F b : Nat → Int} (h : MxAt w wx n m c gB A F b) {k : Nat} (hk : k < n) : wx.cell? ⟨gB, k, none⟩ = some (.int .i64 (b k)) := h.by_.cell hk
theorem Flow.more {N : Net} {s t : Nat} {F F' : Nat → Int} {p : Int} (h : N.Flow s t F') (e : N.bal F' s = N.bal F s + p) (hp : 0 < p) : (sumTo N.m N.cp - N.bal F' s).toNat < (sumTo N.m N.cp - N.bal F s).toNat := by
  have := Net.bal_le h.r0 h.r1 s
  omega
theorem flow_zero {N : Net} (ok : N.Ok) (s t : Nat) : N.Flow s t (fun _ => 0) :=
  ⟨fun _ _ => Int.le_refl _, fun i hi => ok.c0 i hi, fun v _ _ _ => by
    show sumTo N.m _ = 0
    rw [sumTo_congr (g := fun _ => 0) (fun i _ => by simp), sumTo_zero]⟩
theorem min_if (a b : Int) : min a b = if b < a then b else a := by
  by_cases h : b < a
  · rw [if_pos h]; omega
  · rw [if_neg h]; omega
theorem par_cases (k : Nat) : (∃ I, k = 2 * I) ∨ ∃ I, k = 2 * I + 1 := by
  by_cases h : k % 2 = 0
  · exact Or.inl ⟨k / 2, by omega⟩
  · exact Or.inr ⟨k / 2, by omega⟩
set_option maxRecDepth 100000 in
set_option maxHeartbeats 16000000 in
theorem refMax_any (n m c s t : Nat) (A : Option Addr) (E : Nat → EdgeD) (w : World) (h : Edges w A m E) (hv : VNet n m E) (hs : s < n) (ht : t < n) (hst : s ≠ t) :
    Calls Try.prog 20 #[.agg #[.int .i64 n, .slice A m c], .int .i64 s, .int .i64 t] w (RMaxEnd w (netOf n m E) s t) := by
  have HH := Lib.hid h; clear h
  have hm := hv.2.2.1
  have hn5 : n ≤ 512 := by have := hv.2.1; omega
  have HV := Lib.hid hv; clear hv
  have HST := Lib.hid hst; clear hst
  have n0 := netAt_new w n A m c
  have b0 := below_new w (.cells #[.int .i64 n, .slice A m c] 24)
  have c1 := n0.c1
  have hmk1 := make_ints m (by omega)
  have n1 := n0.alloc (.cells (madeCells #[.int .i64 0] m) 3)
  have b1 := b0.alloc b0.size (.cells (madeCells #[.int .i64 0] m) 3)
  have hR : ((w.alloc (.cells #[.int .i64 n, .slice A m c] 24)).alloc (.cells (madeCells #[.int .i64 0] m) 3)).rowIs (w.heap.size + 1) 3 m (ivals fun _ => 0) := by
    have := World.rowIs_made (w.alloc (.cells #[.int .i64 n, .slice A m c] 24)) (.int .i64 0) m 3
    rw [show (w.alloc (.cells #[.int .i64 n, .slice A m c] 24)).heap.size = w.heap.size + 1 by simp] at this
    exact this
  have hfl := Lib.hid (flow_zero HV.out.ok s t)
  go_enter Try.func20, Try.ntmps20
  go_wp2_with fail
  clear c1 hmk1 n0 b0
  generalize (w.alloc (.cells #[.int .i64 (n : Int), .slice A m c] 24)).alloc (.cells (madeCells #[.int .i64 0] m) 3) = W at *
  go_loopw [8, 9, 10, 11, 12] (fun _ _ _ _ _ wr => ∃ F, NetAt wr w.heap.size n A m c ∧ wr.rowIs (w.heap.size + 1) 3 m (ivals F) ∧ Hid ((netOf n m E).Flow s t F) ∧ Below w.heap.size w wr) (fun _ _ _ _ _ wr => leftF (netOf n m E) s wr (w.heap.size + 1))
  case atStart => exact ⟨_, n1, hR, hfl, b1⟩
  case round =>
    clear n1 hR hfl b1
    obtain ⟨F, hN, hF, hfl, hB⟩ := hrel
    have hleft := leftF_eq (N := netOf n m E) (by exact hF) s
    have HLEFT := Lib.hid hleft
    clear hleft
    have HRE := Lib.hid (fun c1 => reach_any n m c1 m s A (some ⟨w.heap.size + 1, 0, none⟩) E F wr (HH.out.below hB) HV.out (Row.ints hF) hs)
    have k0 := hN.c0
    have k1 := hN.c1
    have hwl := hF.lt
    have HN := Lib.hid hN
    have HF := Lib.hid hF
    have HB := Lib.hid hB
    clear hN hF hB
    go_wp2_with fail
    refine (HRE.out _).mono ?_
    rintro e w1 ⟨gS, gB, q, b, rfl, hSe, hBy, hrb, hgS, hgB, hne, b1⟩
    replace hrb : (netOf n m E).Rb (resid (netOf n m E).cp F) s q.length q b := hrb
    replace hSe : w1.rowIs gS 4 n (bvals q) := hSe
    have hA : MxAt w w1 n m c gB A F b := ⟨HN.out.below b1, row_below HF.out b1, hBy, below_next HB.out b1, by omega⟩
    clear hBy HRE HN HF HB b1 k0 k1 hne
    have hreach := Lib.hid (hrb.reach (Nat.le_refl _) t)
    have HRB := Lib.hid hrb
    clear hrb
    by_cases hmem : t ∈ q
    · have z0 : w1.cell? ⟨gS, t, none⟩ = some (.bool true) := by rw [hSe.cell ht]; unfold bvals; rw [decide_eq_true hmem]
      obtain ⟨i0, hi0⟩ := List.mem_iff_getElem?.1 hmem
      have htr := Lib.hid (tr_start (N := netOf n m E) (R := resid (netOf n m E).cp F) (s := s) (b := b) hi0)
      have HI0 := Lib.hid hi0
      clear hi0 hmem hreach hSe
      go_wp2_with fail
      clear z0
      go_loopw [10, 11] (fun mo v wx => ∃ d i V p, mo = .int .i64 p ∧ v = .int .i64 (V : Nat) ∧ Hid ((netOf n m E).Tr (resid (netOf n m E).cp F) s t q b d i V p) ∧ MxAt w wx n m c gB A F b) (fun _ v _ => posn q (intOf v).toNat)
      case atStart => exact ⟨0, i0, t, _, rfl, rfl, htr, hA⟩
      case round =>
        clear hA htr
        obtain ⟨d, i, V, p, rfl, rfl, htr, hA⟩ := hrel
        have hVn : V < n := HRB.out.lt V (List.mem_iff_getElem?.2 ⟨i, htr.out.at_⟩)
        have hpb := htr.out.p1
        have hp0 := htr.out.p0
        by_cases hVs : V = s
        · have hD := Lib.hid (show (netOf n m E).back b t d = s by have := htr.out.bk; rw [this]; exact hVs)
          have hcar := Lib.hid htr.out.car
          have hq1 : (((V : Nat) : Int) != ((s : Nat) : Int)) = false := by rw [hVs]; simp
          clear htr
          have hau := Lib.hid (Net.Aug.start (N := netOf n m E) (R0 := resid (netOf n m E).cp F) p (resid_rest hfl.out.r0 hfl.out.r1) HI0.out)
          have hA2 : MxAt w wr n m c gB A (flowOf (resid (netOf n m E).cp F)) b := by rw [resid_flowOf]; exact hA
          clear hA HI0 hVs hVn
          go_wp2_with fail
          clear hq1
          go_loopw [12] (fun v wx => ∃ e i V R', e ≤ d ∧ v = .int .i64 (V : Nat) ∧ Hid ((netOf n m E).back b t e = V) ∧ Hid ((netOf n m E).Aug (resid (netOf n m E).cp F) q t p i V R') ∧ MxAt w wx n m c gB A (flowOf R') b) (fun v _ => posn q (intOf v).toNat)
          case atStart => exact ⟨0, i0, t, _, by omega, rfl, (show Hid (_ = _) from rfl), hau, hA2⟩
          case round =>
            clear hau hA2
            obtain ⟨e, i, V, R', he, rfl, hbk, hau, hA⟩ := hrel
            have hVn : V < n := HRB.out.lt V (List.mem_iff_getElem?.2 ⟨i, hau.out.at_⟩)
            by_cases hVs : V = s
            · have hq1 : (((V : Nat) : Int) != ((s : Nat) : Int)) = false := by rw [hVs]; simp
              have hfin := (show (netOf n m E).Aug (resid (netOf n m E).cp F) q t p i s R' from hVs ▸ hau.out).flow hfl.out HST.out
              have hmore := Flow.more hfin.1 hfin.2 hp0
              have hl2 := leftF_eq (N := netOf n m E) (by exact hA.fl) s
              have HM : Hid (leftF (netOf n m E) s wr (w.heap.size + 1) < (sumTo (netOf n m E).m (netOf n m E).cp - (netOf n m E).bal F s).toNat) := by
                show _ < _
                rw [hl2]; exact hmore
              have HFL := Lib.hid hfin.1
              clear hfin hmore hl2 hVs hVn hau hbk
              go_wp2_with fail
              go_roundw
              case rel => exact ⟨_, hA.net, hA.fl, HFL, hA.bl⟩
              case measure => rw [HLEFT.out]; exact HM.out
            · obtain ⟨k, j, k1, k2, k3, k4, k5, k6, k7⟩ := HRB.out.step hau.out.at_ hVs
              have hed : e ≠ d := fun h2 => hVs (by rw [← hbk.out, h2]; exact hD.out)
              have hpk : p ≤ resid (netOf n m E).cp F k := by
                have := (hcar.out e (by omega)).1
                rw [hbk.out, k4, dec_code] at this; exact this
              obtain ⟨hau2, hRk⟩ := hau.out.step HV.out.ok HRB.out.nd k1 k3 k5 k6 (by omega) hpk
              have hbk2 := Lib.hid (k7 t e hbk.out)
              have HAU2 := Lib.hid hau2
              have hms : Hid (posn q ((netOf n m E).aF k) < posn q V) := by
                show _ < _
                rw [posn_eq HRB.out.nd k6, posn_eq HRB.out.nd hau.out.at_]; exact k5
              have hq1 : (((V : Nat) : Int) != ((s : Nat) : Int)) = true := bne_iff_ne.2 (by omega)
              have hb0 := hau.out.rest.r0
              have hb2 := hau2.rest.r0
              have hb3 := hau2.rest.pr
              replace k1 : k < 2 * m := k1
              have hed2 : e + 1 ≤ d := by omega
              clear hau hau2 hVs k2 k3 k5 k6 k7 hed hpk hRk hbk
              have hbV : Hid (b V = code k) := k4
              clear k4
              rcases par_cases k with ⟨I, rfl⟩ | ⟨I, rfl⟩
              · obtain ⟨bE, oE, rfl, hbl, hcz⟩ := HH.out (by omega)
                obtain ⟨v0, v1, v2⟩ := hcz I (by omega)
                have x0 := (hA.bl.cell (p := ⟨bE, oE + I * 3, none⟩) hbl).trans v0
                have x1 := (hA.bl.cell (p := ⟨bE, oE + I * 3 + 1, none⟩) hbl).trans v1
                have x2 := (hA.bl.cell (p := ⟨bE, oE + I * 3 + 2, none⟩) hbl).trans v2
                have hbw : bE < wr.heap.size := Nat.lt_of_lt_of_le hbl hA.bl.size
                clear hcz v0 v1 v2
                have hIm : I < m := by omega
                rw [HV.out.fr hIm] at x0
                rw [HV.out.tt hIm] at x1
                have yf := hA.fc hIm
                have yc := hA.cells
                have yb := hA.bc hVn
                rw [hbV.out, code_even] at yb
                rw [Net.aF_ev] at HAU2 hbk2 hms
                have hst := Lib.hid (fun j => (flowOf_sent_even R' I p j).symm)
                have r1 := hb0 (2 * I) (by show 2 * I < 2 * m; omega)
                have r2 := hb0 (2 * I + 1) (by show 2 * I + 1 < 2 * m; omega)
                have r3 : 0 ≤ flowOf (sent1 R' (2 * I) p) I := hb2 (2 * I + 1) (by show 2 * I + 1 < 2 * m; omega)
                have r4 := hb2 (2 * I) (by show 2 * I < 2 * m; omega)
                have r5 := hb3 I hIm
                have r6 : (netOf n m E).cp I ≤ 1125899906842624 := (HV.out.2.2.2 I hIm).2.2
                have r7 : flowOf (sent1 R' (2 * I) p) I = flowOf R' I + p := by rw [flowOf_sent_even, if_pos rfl]
                have r8 : sent1 R' (2 * I) p (2 * I + 1) = flowOf (sent1 R' (2 * I) p) I := rfl
                have hw1 : IntKind.i64.wrap (flowOf R' I + p) = flowOf R' I + p := IntWalk.i64_in _ (by rw [r8] at r5; rw [r7] at r3 r5; omega)
                have hupd : ∀ j, up (flowOf R') I (flowOf R' I + p) j = flowOf (sent1 R' (2 * I) p) j := fun j => hst.out j
                have HUPD := Lib.hid hupd
                have zf := hA.fl.frozen I
                clear hst hupd r1 r2 r3 r4 r5 r6 r7 r8 hb0 hb2 hb3 hbV
                generalize (netOf n m E).fr I = f at *
                generalize (netOf n m E).tt I = t2 at *
                generalize (E I).c = ec at *
                skip
                go_upto_region 16 with fail
                go_still_tail 15, (by kernel_rfl)
                change wpList _ _ _ _ _ wr.drew
                have hA2 := hA.drew
                have hA3 := hA2.set HUPD.out
                have z2 : wr.drew.cell? ⟨w.heap.size + 1, I, none⟩ = _ := yf
                have z3 : wr.drew.frozen? ⟨w.heap.size + 1, I, none⟩ = false := zf
                have yc2 := hA3.cells
                have yb2 := hA3.bc hVn
                have xx : (wr.drew.setCell ⟨w.heap.size + 1, I, none⟩ (.int .i64 (flowOf R' I + p))).cell? ⟨bE, oE + I * 3, none⟩ = some (.int .i64 (f : Int)) := (World.cell?_of_block (w := wr.drew) (Below.heap_setCell _ _ _ bE (by show bE ≠ w.heap.size + 1; omega))).trans x0
                have yb3 : (wr.drew.setCell ⟨w.heap.size + 1, I, none⟩ (.int .i64 (flowOf R' I + p))).cell? ⟨gB, V, none⟩ = _ := yb2.trans ((hA.bc hVn).symm.trans yb)
                clear yb2
                generalize wr.drew = W1 at *
                clear hA hA2 yf yc yb x0 x1 x2 zf HUPD
                go_upto_region 17 with fail
                generalize W1.setCell ⟨w.heap.size + 1, I, none⟩ (.int .i64 (flowOf R' I + p)) = W2 at *
                go_quiet (fail)
                have hA4 := fun k => hA3.drewN k
                clear yc2 yb3 xx hA3 z2 z3
                go_wp2_with fail
                go_roundw
                case rel => exact ⟨e + 1, j, f, _, hed2, rfl, hbk2, HAU2, hA4 _⟩
                case measure => exact hms.out
              · obtain ⟨bE, oE, rfl, hbl, hcz⟩ := HH.out (by omega)
                obtain ⟨v0, v1, v2⟩ := hcz I (by omega)
                have x0 := (hA.bl.cell (p := ⟨bE, oE + I * 3, none⟩) hbl).trans v0
                have x1 := (hA.bl.cell (p := ⟨bE, oE + I * 3 + 1, none⟩) hbl).trans v1
                have x2 := (hA.bl.cell (p := ⟨bE, oE + I * 3 + 2, none⟩) hbl).trans v2
                have hbw : bE < wr.heap.size := Nat.lt_of_lt_of_le hbl hA.bl.size
                clear hcz v0 v1 v2
                have hIm : I < m := by omega
                rw [HV.out.fr hIm] at x0
                rw [HV.out.tt hIm] at x1
                have yf := hA.fc hIm
                have yc := hA.cells
                have yb := hA.bc hVn
                rw [hbV.out, code_odd] at yb
                rw [Net.aF_od] at HAU2 hbk2 hms
                have hst := Lib.hid (fun j => (flowOf_sent_odd R' I p j).symm)
                have r1 := hb0 (2 * I) (by show 2 * I < 2 * m; omega)
                have r2 := hb0 (2 * I + 1) (by show 2 * I + 1 < 2 * m; omega)
                have r3 : 0 ≤ flowOf (sent1 R' (2 * I + 1) p) I := hb2 (2 * I + 1) (by show 2 * I + 1 < 2 * m; omega)
                have r4 := hb2 (2 * I) (by show 2 * I < 2 * m; omega)
                have r5 := hb3 I hIm
                have r6 : (netOf n m E).cp I ≤ 1125899906842624 := (HV.out.2.2.2 I hIm).2.2
                have r7 : flowOf (sent1 R' (2 * I + 1) p) I = flowOf R' I - p := by rw [flowOf_sent_odd, if_pos rfl]
                have r8 : sent1 R' (2 * I + 1) p (2 * I + 1) = flowOf (sent1 R' (2 * I + 1) p) I := rfl
                have hw1 : IntKind.i64.wrap (flowOf R' I - p) = flowOf R' I - p := IntWalk.i64_in _ (by rw [r8] at r5; rw [r7] at r3 r5; omega)
                have hupd : ∀ j, up (flowOf R') I (flowOf R' I - p) j = flowOf (sent1 R' (2 * I + 1) p) j := fun j => hst.out j
                have HUPD := Lib.hid hupd
                have zf := hA.fl.frozen I
                clear hst hupd r1 r2 r3 r4 r5 r6 r7 r8 hb0 hb2 hb3 hbV
                obtain ⟨x, hx⟩ : ∃ x : Int, -2 - (I : Int) = x := ⟨_, rfl⟩
                have hx0 : decide (0 ≤ x) = false := decide_eq_false (by omega)
                have hx1 : IntKind.i64.wrap (-2 - x) = (I : Int) := by rw [← hx, show -2 - (-2 - (I : Int)) = I by omega]; exact IntWalk.i64_in _ (by omega)
                rw [hx] at yb
                clear hx
                generalize (netOf n m E).fr I = f at *
                generalize (netOf n m E).tt I = t2 at *
                generalize (E I).c = ec at *
                skip
                go_upto_region 18 with fail
                go_still_tail 17, (by kernel_rfl)
                change wpList _ _ _ _ _ wr.drew
                have hA2 := hA.drew
                have hA3 := hA2.set HUPD.out
                have z2 : wr.drew.cell? ⟨w.heap.size + 1, I, none⟩ = _ := yf
                have z3 : wr.drew.frozen? ⟨w.heap.size + 1, I, none⟩ = false := zf
                have yc2 := hA3.cells
                have yb2 := hA3.bc hVn
                have xx : (wr.drew.setCell ⟨w.heap.size + 1, I, none⟩ (.int .i64 (flowOf R' I - p))).cell? ⟨bE, oE + I * 3 + 1, none⟩ = some (.int .i64 (t2 : Int)) := (World.cell?_of_block (w := wr.drew) (Below.heap_setCell _ _ _ bE (by show bE ≠ w.heap.size + 1; omega))).trans x1
                have yb3 : (wr.drew.setCell ⟨w.heap.size + 1, I, none⟩ (.int .i64 (flowOf R' I - p))).cell? ⟨gB, V, none⟩ = _ := yb2.trans ((hA.bc hVn).symm.trans yb)
                clear yb2
                generalize wr.drew = W1 at *
                clear hA hA2 yf yc yb x0 x1 x2 zf HUPD
                go_upto_region 19 with fail
                generalize W1.setCell ⟨w.heap.size + 1, I, none⟩ (.int .i64 (flowOf R' I - p)) = W2 at *
                go_quiet (fail)
                have hA4 := fun k => hA3.drewN k
                clear yc2 yb3 xx hA3 z2 z3
                go_wp2_with fail
                go_roundw
                case rel => exact ⟨e + 1, j, t2, _, hed2, rfl, hbk2, HAU2, hA4 _⟩
                case measure => exact hms.out
        · obtain ⟨k, j, k1, k2, k3, k4, k5, k6, k7⟩ := HRB.out.step htr.out.at_ hVs
          have htr2 := Lib.hid (htr.out.next hVs k6 k4 k2)
          have hms : Hid (posn q ((netOf n m E).aF k) < posn q V) := by
            show _ < _
            rw [posn_eq HRB.out.nd k6, posn_eq HRB.out.nd htr.out.at_]; exact k5
          have hq1 : (((V : Nat) : Int) != ((s : Nat) : Int)) = true := bne_iff_ne.2 (by omega)
          replace k1 : k < 2 * m := k1
          clear htr hVs k3 k5 k6 k7
          have hbV : Hid (b V = code k) := k4
          clear k4
          rcases par_cases k with ⟨I, rfl⟩ | ⟨I, rfl⟩
          · obtain ⟨bE, oE, rfl, hbl, hcz⟩ := HH.out (by omega)
            obtain ⟨v0, v1, v2⟩ := hcz I (by omega)
            have x0 := (hA.bl.cell (p := ⟨bE, oE + I * 3, none⟩) hbl).trans v0
            have x1 := (hA.bl.cell (p := ⟨bE, oE + I * 3 + 1, none⟩) hbl).trans v1
            have x2 := (hA.bl.cell (p := ⟨bE, oE + I * 3 + 2, none⟩) hbl).trans v2
            have hbw : bE < wr.heap.size := Nat.lt_of_lt_of_le hbl hA.bl.size
            clear hcz v0 v1 v2
            have hIm : I < m := by omega
            rw [HV.out.fr hIm] at x0
            rw [HV.out.tt hIm] at x1
            have yf := hA.fc hIm
            have yc := hA.cells
            have yb := hA.bc hVn
            rw [hbV.out, code_even] at yb
            have hr : resid (netOf n m E).cp F (2 * I) = (E I).c - F I := resid_even _ _ I
            have hrb2 : 0 ≤ F I ∧ F I ≤ (E I).c := ⟨hfl.out.r0 I hIm, hfl.out.r1 I hIm⟩
            have hcap : (E I).c ≤ 1125899906842624 := (HV.out.2.2.2 I hIm).2.2
            rw [hr, Net.aF_ev, min_if] at htr2
            rw [Net.aF_ev] at hms
            clear hr hbV k2
            generalize (netOf n m E).fr I = f at *
            generalize (netOf n m E).tt I = t2 at *
            generalize (E I).c = ec at *
            generalize hfI : F I = fI at *
            clear hfI
            have hw1 : IntKind.i64.wrap (ec - fI) = ec - fI := IntWalk.i64_in _ (by omega)
            go_upto_region 9 with fail
            go_still_tail 18, (by kernel_rfl)
            change wpList _ _ _ _ _ wr.drew
            have hA2 := hA.drew
            have yc2 := hA2.cells
            have yb2 : wr.drew.cell? ⟨gB, V, none⟩ = _ := yb
            have xx : wr.drew.cell? ⟨bE, oE + I * 3, none⟩ = _ := x0
            generalize wr.drew = W1 at *
            clear hA yf yc yb x0 x1 x2
            go_upto_region 10 with fail
            go_quiet (fail)
            have hA3 := fun k => hA2.drewN k
            clear yc2 yb2 xx hA2
            go_wp2_with fail
            go_roundw
            case rel => exact ⟨d + 1, j, f, _, rfl, rfl, htr2, hA3 _⟩
            case measure => exact hms.out
          · obtain ⟨bE, oE, rfl, hbl, hcz⟩ := HH.out (by omega)
            obtain ⟨v0, v1, v2⟩ := hcz I (by omega)
            have x0 := (hA.bl.cell (p := ⟨bE, oE + I * 3, none⟩) hbl).trans v0
            have x1 := (hA.bl.cell (p := ⟨bE, oE + I * 3 + 1, none⟩) hbl).trans v1
            have x2 := (hA.bl.cell (p := ⟨bE, oE + I * 3 + 2, none⟩) hbl).trans v2
            have hbw : bE < wr.heap.size := Nat.lt_of_lt_of_le hbl hA.bl.size
            clear hcz v0 v1 v2
            have hIm : I < m := by omega
            rw [HV.out.fr hIm] at x0
            rw [HV.out.tt hIm] at x1
            have yf := hA.fc hIm
            have yc := hA.cells
            have yb := hA.bc hVn
            rw [hbV.out, code_odd] at yb
            have hr : resid (netOf n m E).cp F (2 * I + 1) = F I := resid_odd _ _ I
            rw [hr, Net.aF_od, min_if] at htr2
            rw [Net.aF_od] at hms
            clear hr hbV k2
            obtain ⟨x, hx⟩ : ∃ x : Int, -2 - (I : Int) = x := ⟨_, rfl⟩
            have hx0 : decide (0 ≤ x) = false := decide_eq_false (by omega)
            have hx1 : IntKind.i64.wrap (-2 - x) = (I : Int) := by rw [← hx, show -2 - (-2 - (I : Int)) = I by omega]; exact IntWalk.i64_in _ (by omega)
            rw [hx] at yb
            clear hx
            generalize (netOf n m E).fr I = f at *
            generalize (netOf n m E).tt I = t2 at *
            generalize (E I).c = ec at *
            generalize hfI : F I = fI at *
            clear hfI
            go_upto_region 12 with fail
            go_quiet (fail)
            have hA3 := fun k => hA.drewN k
            clear yc yb yf x0 x1 x2 hA
            go_wp2_with fail
            go_roundw
            case rel => exact ⟨d + 1, j, t2, _, rfl, rfl, htr2, hA3 _⟩
            case measure => exact hms.out
    · have z0 : w1.cell? ⟨gS, t, none⟩ = some (.bool false) := by rw [hSe.cell ht]; unfold bvals; rw [decide_eq_false hmem]
      have hdone := Lib.hid (done_of_flow hfl.out (fun hr => hmem (hreach.out.2 hr)))
      clear hmem hreach hSe
      go_wp2_with fail
      go_ret
      exact ⟨_, F, rfl, hA.fl, hdone.out, by omega, hA.bl⟩
end Go.Proofs.Ytjdceafkcakbjaa
