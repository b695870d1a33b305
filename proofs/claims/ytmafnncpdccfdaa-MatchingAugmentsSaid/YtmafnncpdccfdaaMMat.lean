/- The reference's Mates and Size; rising. -/
import Derived.Test.YtmafnncpdccfdaaMRvi
import Derived.Test.YtmafnncpdccfdaaMRne
import Derived.Test.YtmafnncpdccfdaaMTop
import Derived.Test.YtmafnncpdccfdaaKMa
namespace Go.Proofs.Ytmafnncpdccfdaa
open Go.RowKit
def MaEnd (w : World) (n m k : Nat) (E : Nat → Int × Int) (e : Ending) (w' : World) : Prop :=
  ∃ g, e = .returned (.slice (some ⟨g, 0, none⟩) m m) ∧ w.heap.size ≤ g ∧ w'.rowIs g 3 m (ivals (maxS (nbs E k) m n).R) ∧ Below w.heap.size w w'
set_option maxRecDepth 100000 in
set_option maxHeartbeats 4000000 in
theorem mates_any (n m k c : Nat) (A : Option Addr) (E : Nat → Int × Int) (w : World) (h : Prs w A k E) (hv : VG n m k E) : Calls Try.prog 40 #[.int .i64 n, .int .i64 m, .slice A k c] w (MaEnd w n m k E) := by
  have hn := hv.n1
  have hm := hv.m1
  have mk1 := make_ints m (by omega)
  have mk2 := make_bools m (by omega)
  have HH := Lib.hid h
  have HV := Lib.hid hv
  have HNB := Lib.hid (vg_nb hv)
  have HLEN := Lib.hid (vg_len hv)
  clear h hv
  have e0 : (w.alloc (.cells (madeCells #[.int .i64 0] m) 3)).heap[w.heap.size]? = some (.cells (madeCells #[.int .i64 0] m) 3) := heap_alloc_new w _
  have hR0 : (w.alloc (.cells (madeCells #[.int .i64 0] m) 3)).rowIs w.heap.size 3 m (ivals (minus 0)) := by rw [← minus_zero]; exact row_of_made e0
  have b0 := below_new w (.cells (madeCells #[.int .i64 0] m) 3)
  go_enter Try.func40, Try.ntmps40
  go_upto_region 2 with fail
  clear mk1 e0
  generalize w.alloc (.cells (madeCells #[.int .i64 0] m) 3) = W at *
  go_wp2_with fail
  go_loopw [8] (fun i wr => ∃ K : Nat, K ≤ m ∧ i = .int .i64 K ∧ wr.rowIs w.heap.size 3 m (ivals (minus K)) ∧ Below w.heap.size w wr) (fun i _ => m - (intOf i).toNat)
  case atStart => exact ⟨0, Nat.zero_le _, rfl, hR0, b0⟩
  case round =>
    clear hR0 b0
    obtain ⟨K, hK, rfl, hR, hB⟩ := hrel
    by_cases hlt : K < m
    · have x0 : wr.cell? ⟨w.heap.size, K, none⟩ = _ := hR.cell hlt
      have f0 := hR.frozen K
      have hwrap : IntKind.i64.wrap ((K : Int) + 1) = (K : Int) + 1 := IntWalk.i64_in _ (by omega)
      have hR2 := row_put (k := K) hR (-1)
      rw [put_minus] at hR2
      have hB2 := hB.setCell (p := ⟨w.heap.size, K, none⟩) (by exact Nat.le_refl _) (.int .i64 (-1))
      clear hR hB
      go_wp2_with fail
      go_roundw
      case rel => exact ⟨K + 1, hlt, by go_num, hR2, hB2⟩
      case measure => simp [intOf]; omega
    · obtain rfl : K = m := by omega
      have hR2 : wr.rowIs w.heap.size 3 K (ivals (maxS (nbs E k) K 0).R) := hR.congr fun j hj => by
        show Value.int .i64 (minus K j) = Value.int .i64 (-1)
        unfold minus; rw [if_pos hj]
      have HN := Lib.hid (rneigh_any n K k c A E wr (HH.out.below hB) HV.out)
      unfold NeEnd at HN
      clear hR
      go_wp2_with fail
      refine HN.out.mono ?_; rintro e w2 ⟨V, rfl, hT, b2⟩
      have hR3 := row_below hR2 b2
      have hB3 := below_next hB b2
      have hgN : w.heap.size < wr.heap.size := hR2.lt
      generalize wr.heap.size = gN at *
      clear hR2 hB b2 HN
      go_wp2_with fail
      go_loopw [10] (fun i w3 => ∃ J : Nat, J ≤ n ∧ i = .int .i64 J ∧ w3.rowIs w.heap.size 3 K (ivals (maxS (nbs E k) K J).R) ∧ TabN w3 (gN + 1) gN n (nbs E k) V ∧ Below w.heap.size w w3) (fun i _ => n - (intOf i).toNat)
      case atStart => exact ⟨0, Nat.zero_le _, rfl, hR3, hT, hB3⟩
      case round =>
        clear hR3 hT hB3
        obtain ⟨J, hJ, rfl, hR, hT, hB⟩ := hrel
        by_cases hlt2 : J < n
        · have hI := maxI (n := n) HNB.out J hJ
          have hwrap : IntKind.i64.wrap ((J : Int) + 1) = (J : Int) + 1 := IntWalk.i64_in _ (by omega)
          have bu := below_new wr (.cells (madeCells #[.bool false] K) 4)
          have eS : (wr.alloc (.cells (madeCells #[.bool false] K) 4)).heap[wr.heap.size]? = some (.cells (madeCells #[.bool false] K) 4) := heap_alloc_new wr _
          have hl := hT.rows.lt
          have hN : NbAt (wr.alloc (.cells (madeCells #[.bool false] K) 4)) (Out w.heap.size w.heap.size wr.heap.size) gN n (nbs E k) (adOf V) (cpOf V) :=
            (hT.nbAt (X := Out w.heap.size w.heap.size wr.heap.size) ⟨by omega, by omega, by omega⟩ fun b h1 h2 => ⟨by omega, by omega, by omega⟩).keep bu.size (fun b hb _ => bu.block b hb)
          have hS : RSt (wr.alloc (.cells (madeCells #[.bool false] K) 4)) K w.heap.size wr.heap.size (maxS (nbs E k) K J) := ⟨row_below hR bu, by rw [maxS_seen]; exact row_of_made eS⟩
          have hlw := hR.lt
          have HC := Lib.hid (rimp_any w.heap.size n K gN w.heap.size wr.heap.size (nbs E k) (adOf V) (cpOf V) HNB.out HLEN.out (Nat.le_refl _) (by omega) (by omega) (K + 1) J (maxS (nbs E k) K J) _ hN hS hI.mat hlt2 (.inl (hI.free J (Nat.le_refl _))) (by rw [maxS_seen, un_none]; omega))
          have HOW : Hid (∀ a, a < n → ∀ g, (V a).ownBlock = some g → g < wr.heap.size) := Lib.hid fun a ha g e => ((hT.own a ha).lt g e).2
          have hT1 := hT.below bu
          have hB1 := below_next hB bu
          have hgr : wr.heap.size < (wr.alloc (.cells (madeCells #[.bool false] K) 4)).heap.size := by simp
          clear hN hS eS hI hR hT bu hB
          go_upto_region 11 with fail
          generalize wr.alloc (.cells (madeCells #[.bool false] K) 4) = w4 at *
          go_wp2_with fail
          refine HC.out.mono ?_; rintro e w5 ⟨rfl, S5, b5, k5⟩
          have hR5 : w5.rowIs w.heap.size 3 K (ivals (maxS (nbs E k) K (J + 1)).R) := S5.r
          have hT5 : TabN w5 (gN + 1) gN n (nbs E k) V := by
            have hg4 := hT1.rows.lt
            refine ⟨hT1.rows.of_block (k5.2 gN hg4 ⟨by omega, by omega, by omega⟩), fun a ha => own_keep (hT1.own a ha) fun g e => ?_, hT1.apart, hT1.lt⟩
            have h1 := (hT1.own a ha).lt g e
            have h2 := HOW.out a ha g e
            exact k5.2 g h1.2 ⟨by omega, by omega, by omega⟩
          have hB5 := hB1.trans b5
          clear S5 hT1 hB1 b5 k5 HC
          go_wp2_with fail
          go_roundw
          case rel => exact ⟨J + 1, hlt2, by go_num, hR5, hT5, hB5⟩
          case measure => simp [intOf]; omega
        · obtain rfl : J = n := by omega
          go_wp2_with fail
          go_ret
          exact ⟨w.heap.size, rfl, Nat.le_refl _, hR, hB⟩
/- how many right nodes are matched -/
def cnP (R : Nat → Int) (J : Nat) : Nat := cntT (fun b => decide (0 ≤ R b)) J
theorem cnP_le (R : Nat → Int) (J : Nat) : cnP R J ≤ J := cntT_le _ J
theorem size_eq {n m k : Nat} {E : Nat → Int × Int} (hv : VG n m k E) : cnP (maxS (nbs E k) m n).R m = (prl (maxS (nbs E k) m n).L n).length := by
  have hM := maxM hv
  have e2 : cntT (fun a => true && !freeB (maxS (nbs E k) m n) a) n = cntT (fun b => !decide ((maxS (nbs E k) m n).R b = -1) && true) m := mat_cnt hM (fun _ => true)
  have s2 := cntT_split (fun _ => true) (freeB (maxS (nbs E k) m n)) n
  have c1 : cntT (fun _ => true) n = n := by have := cntT_not (fun _ => true) n; have h0 : cntT (fun _ => (true == false)) n = 0 := cntT_none n; omega
  have p1 := prl_cnt (maxS (nbs E k) m n).L n
  have p2 : cntT (fun a => decide ((maxS (nbs E k) m n).L a = -1)) n = cntT (fun a => true && freeB (maxS (nbs E k) m n) a) n := cntT_congr fun a _ => by simp [freeB]
  have p3 : cnP (maxS (nbs E k) m n).R m = cntT (fun b => !decide ((maxS (nbs E k) m n).R b = -1) && true) m := cntT_congr fun b hb => by
    rcases Mat.r hM b hb with h1 | ⟨a, _, h1, _⟩
    · rw [h1]; rfl
    · rw [h1, decide_eq_true (by omega), decide_eq_false (by omega)]; rfl
  omega
set_option maxRecDepth 100000 in
set_option maxHeartbeats 4000000 in
theorem size_any (n m k c : Nat) (A : Option Addr) (E : Nat → Int × Int) (w : World) (h : Prs w A k E) (hv : VG n m k E) :
    Calls Try.prog 19 #[.int .i64 n, .int .i64 m, .slice A k c] w fun e w' => e = .returned (.int .i64 ((prl (maxS (nbs E k) m n).L n).length : Nat)) ∧ Below w.heap.size w w' := by
  have hm := hv.m1
  have HE := Lib.hid (size_eq hv)
  have HM := Lib.hid (mates_any n m k c A E w h hv)
  unfold MaEnd at HM
  clear h hv
  generalize (prl (maxS (nbs E k) m n).L n).length = sz at *
  generalize (maxS (nbs E k) m n).R = R at *
  go_enter Try.func19, Try.ntmps19
  go_wp2_with fail
  refine HM.out.mono ?_; rintro e w1 ⟨g, rfl, hg, hR, b1⟩
  clear HM
  go_wp2_with fail
  go_loopw [8, 9] (fun q i wr => ∃ J : Nat, J ≤ m ∧ i = .int .i64 J ∧ q = .int .i64 (cnP R J : Nat) ∧ wr.rowIs g 3 m (ivals R) ∧ Below w.heap.size w wr) (fun _ i _ => m - (intOf i).toNat)
  case atStart => exact ⟨0, Nat.zero_le _, rfl, rfl, hR, b1⟩
  case round =>
    clear hR b1
    obtain ⟨J, hJ, rfl, rfl, hR, hB⟩ := hrel
    by_cases hlt : J < m
    · have x0 : wr.cell? ⟨g, J, none⟩ = some (.int .i64 (R J)) := hR.cell hlt
      have hc := cnP_le R J
      have hwrap : IntKind.i64.wrap ((J : Int) + 1) = (J : Int) + 1 := IntWalk.i64_in _ (by omega)
      have hwrap2 : IntKind.i64.wrap (((cnP R J : Nat) : Int) + 1) = ((cnP R J : Nat) : Int) + 1 := IntWalk.i64_in _ (by omega)
      by_cases h0 : 0 ≤ R J
      · have hst : Hid (cnP R (J + 1) = cnP R J + 1) := by show cntT _ J + _ = _; rw [if_pos (decide_eq_true h0)]; rfl
        have q1 : decide (0 ≤ R J) = true := decide_eq_true h0
        generalize R J = y at *
        generalize cnP R J = q at *
        clear h0
        go_wp2_with fail
        go_roundw
        case rel => exact ⟨J + 1, hlt, by go_num, by rw [hst.out]; go_num, hR, hB⟩
        case measure => simp [intOf]; omega
      · have hst : Hid (cnP R (J + 1) = cnP R J) := by show cntT _ J + _ = _; rw [if_neg (by simpa using h0)]; rfl
        have q1 : decide (0 ≤ R J) = false := decide_eq_false h0
        generalize R J = y at *
        generalize cnP R J = q at *
        clear h0
        go_wp2_with fail
        go_roundw
        case rel => exact ⟨J + 1, hlt, by go_num, by rw [hst.out], hR, hB⟩
        case measure => simp [intOf]; omega
    · obtain rfl : J = m := by omega
      go_wp2_with fail
      go_ret
      exact ⟨by rw [HE.out]; rfl, hB⟩
theorem rising_any (p c : Nat) (A : Option Addr) (Z : Nat → Int × Int) (w : World) (h : Prs w A p Z) (hp : p ≤ 1000000) (hr : ∀ i, i + 1 < p → (Z i).1 < (Z (i + 1)).1) :
    Calls Try.prog 17 #[.slice A p c] w fun e w' => e = .returned (.bool true) ∧ Below w.heap.size w w' := by
  have HH := Lib.hid h; clear h
  have HR := Lib.hid hr; clear hr
  go_enter Try.func17, Try.ntmps17
  go_wp2_with fail
  go_loopw [3] (fun i wr => ∃ J : Nat, i = .int .i64 ((J : Int) + 1) ∧ (J = 0 ∨ J < p) ∧ Below w.heap.size w wr) (fun i _ => p - (intOf i).toNat)
  case atStart => exact ⟨0, rfl, .inl rfl, Below.refl _ _⟩
  case round =>
    obtain ⟨J, rfl, hJ, hB⟩ := hrel
    by_cases hlt : J + 1 < p
    · obtain ⟨b, off, rfl, hbl, hcz⟩ := (HH.out.below hB) (by omega)
      have x0 := (hcz J (by omega)).1
      have x1 := (hcz (J + 1) hlt).1
      clear hcz hbl
      have hlt2 : decide ((J : Int) + 1 < (p : Int)) = true := decide_eq_true (by omega)
      have hrr := HR.out J hlt
      have q1 : decide ((Z (J + 1)).1 ≤ (Z J).1) = false := decide_eq_false (by omega)
      generalize (Z (J + 1)).1 = y1 at *
      generalize (Z J).1 = y0 at *
      have hw1 : IntKind.i64.wrap ((J : Int) + 1 + 1) = (J : Int) + 1 + 1 := IntWalk.i64_in _ (by omega)
      have hw2 : IntKind.i64.wrap ((J : Int) + 1 - 1) = (J : Int) := by rw [IntWalk.i64_in _ (by omega)]; omega
      have hw3 : IntKind.i64.wrap (J : Int) = (J : Int) := IntWalk.i64_in _ (by omega)
      have ht : ((J : Int) + 1).toNat = J + 1 := by omega
      have hb1 : (0 : Int) ≤ (J : Int) + 1 := by omega
      have hb2 : (J : Int) + 1 < (p : Int) := by omega
      have hb3 : (J : Int) < (p : Int) := by omega
      clear hrr
      go_upto_region 4 with fail
      go_quiet (fail)
      have B2 := below_drewN hB nq
      go_wp2_with fail
      go_roundw
      case rel => exact ⟨J + 1, by go_num, .inr hlt, B2⟩
      case measure => simp [intOf]; omega
    · have hlt2 : decide ((J : Int) + 1 < (p : Int)) = false := decide_eq_false (by omega)
      go_wp2_with fail
      go_ret
      exact ⟨rfl, hB⟩
end Go.Proofs.Ytmafnncpdccfdaa
