/- The reference's Cover. -/
import Derived.Test.YtmafnncpdccfdaaMRea
import Derived.Test.YtmafnncpdccfdaaMRSe
namespace Go.Proofs.Ytmafnncpdccfdaa
open Go.RowKit
def ng (T : Nat → Bool) (K v : Nat) : Bool := if v < K then !T v else T v
def RvOk (w : World) (n m k : Nat) (E : Nat → Int × Int) (e : Ending) (w' : World) : Prop :=
  ∃ gX gY, e = .returned (.tuple #[.agg #[.int .i64 n, .slice (some ⟨gX, 0, none⟩) ((n + 63) / 64) ((n + 63) / 64)], .agg #[.int .i64 m, .slice (some ⟨gY, 0, none⟩) ((m + 63) / 64) ((m + 63) / 64)]]) ∧
    NewSet w w' gX n (bw (fun v => !mleft n m k E v) n) ∧ NewSet w w' gY m (bw (mseen n m k E) m) ∧ Below w.heap.size w w'
set_option maxRecDepth 100000 in
set_option maxHeartbeats 4000000 in
theorem rcover_any (n m k c : Nat) (A : Option Addr) (E : Nat → Int × Int) (w : World) (h : Prs w A k E) (hv : VG n m k E) : Calls Try.prog 16 #[.int .i64 n, .int .i64 m, .slice A k c] w (RvOk w n m k E) := by
  have hn := hv.n1
  have hm := hv.m1
  have HV := Lib.hid hv; clear hv
  have HH := Lib.hid h; clear h
  have s0 := (setAt_new w 0 none 0 0).alloc (.cells #[.int .i64 0, .slice none 0 0] 30)
  have s1 := setAt_new (w.alloc (.cells #[.int .i64 0, .slice none 0 0] 30)) 0 none 0 0
  have b0 := below_next (below_new w (.cells #[.int .i64 0, .slice none 0 0] 30)) (below_new (w.alloc (.cells #[.int .i64 0, .slice none 0 0] 30)) (.cells #[.int .i64 0, .slice none 0 0] 30))
  rw [show (w.alloc (.cells #[.int .i64 0, .slice none 0 0] 30)).heap.size = w.heap.size + 1 by simp] at s1
  go_enter Try.func16, Try.ntmps16
  go_upto_region 1 with fail
  generalize (w.alloc (.cells #[.int .i64 0, .slice none 0 0] 30)).alloc (.cells #[.int .i64 0, .slice none 0 0] 30) = W at *
  have HR := Lib.hid (reach_any n m k c A E W (HH.out.below b0) HV.out)
  unfold RcEnd at HR
  obtain ⟨T, hT⟩ : ∃ T, T = mleft n m k E := ⟨_, rfl⟩
  obtain ⟨S, hS⟩ : ∃ S, S = mseen n m k E := ⟨_, rfl⟩
  rw [← hT, ← hS] at HR
  have HT := Lib.hid hT
  have HS := Lib.hid hS
  clear hT hS
  go_wp2_with fail
  refine HR.out.mono ?_; rintro e w3 ⟨gA, gB, rfl, hAB, lA, lB, hra, hrb, b3⟩
  have hz1 := s1.lt
  have t0 := s0.below b3
  have t1 := s1.below b3
  have B3 := below_next b0 b3
  have hra0 : w3.rowIs gA 4 n (bvals (ng T 0)) := hra.congr fun j _ => by unfold bvals ng; rw [if_neg (Nat.not_lt_zero _)]
  clear s0 s1 b0 b3 HR hra HH HV
  go_wp2_with fail
  go_loopw [10] (fun i wr => ∃ K : Nat, K ≤ n ∧ i = .int .i64 K ∧ wr.rowIs gA 4 n (bvals (ng T K)) ∧ wr.rowIs gB 4 m (bvals S) ∧ SetAt wr w.heap.size 0 none 0 0 ∧ SetAt wr (w.heap.size + 1) 0 none 0 0 ∧ Below w.heap.size w wr) (fun i _ => n - (intOf i).toNat)
  case atStart => exact ⟨0, Nat.zero_le _, rfl, hra0, hrb, t0, t1, B3⟩
  case round =>
    clear hra0 hrb t0 t1 B3
    obtain ⟨K, hK, rfl, hra, hrb, t0, t1, hB⟩ := hrel
    by_cases hlt : K < n
    · have x0 : wr.cell? ⟨gA, K, none⟩ = some (.bool (T K)) := by
        have : wr.cell? ⟨gA, K, none⟩ = some (.bool (ng T K K)) := hra.cell hlt
        unfold ng at this; rw [if_neg (Nat.lt_irrefl _)] at this; exact this
      have f0 := hra.frozen K
      have hwrap : IntKind.i64.wrap ((K : Int) + 1) = (K : Int) + 1 := IntWalk.i64_in _ (by omega)
      have hra2 := row_bool2 (k := K) hra (!T K) (t := ng T (K + 1)) (fun j _ => by
        unfold ng
        by_cases e : j = K
        · rw [if_pos e, if_pos (by omega), e]
        · rw [if_neg e]
          by_cases e2 : j < K
          · rw [if_pos e2, if_pos (by omega)]
          · rw [if_neg e2, if_neg (by omega)])
      have hrb2 := hrb.setOther (a := ⟨gA, K, none⟩) (by exact hAB.symm) (.bool (!T K))
      have t02 := t0.far (q := ⟨gA, K, none⟩) (by show w.heap.size ≠ gA; omega) (.bool (!T K))
      have t12 := t1.far (q := ⟨gA, K, none⟩) (by show w.heap.size + 1 ≠ gA; omega) (.bool (!T K))
      have hB2 := hB.setCell (p := ⟨gA, K, none⟩) (by show w.heap.size ≤ gA; omega) (.bool (!T K))
      generalize T K = y at *
      clear hra hrb t0 t1 hB
      go_wp2_with fail
      go_roundw
      case rel => exact ⟨K + 1, hlt, by go_num, hra2, hrb2, t02, t12, hB2⟩
      case measure => simp [intOf]; omega
    · obtain rfl : K = n := by omega
      have hra2 : wr.rowIs gA 4 K (fun j => .bool ((fun v => !T v) j)) := hra.congr fun j hj => by unfold bvals ng; rw [if_pos hj]
      clear hra
      go_wp2_with fail
      refine (refSet_any gA K K (fun v => !T v) wr hra2 (by omega)).mono ?_; rintro e w4 ⟨gX, rfl, hX, rX, b4⟩
      have B4 := below_next hB b4
      go_wp2_with fail
      refine (refSet_any gB m m S w4 (row_below hrb b4) (by omega)).mono ?_; rintro e w5 ⟨gY, rfl, hY, rY, b5⟩
      have B5 := below_next B4 b5
      have u0 := (t0.below b4).below b5
      have u1 := (t1.below b4).below b5
      have rX5 := row_below rX b5
      have l0 := t0.lt
      have l1 := t1.lt
      have l4 := b4.size
      have r0 := u0.c0
      have r1 := u0.c1
      have f0 := u0.free 0
      have f1 := u0.free 1
      generalize hn6 : (K + 63) / 64 = nw at *
      generalize hm6 : (m + 63) / 64 = mw at *
      have HN6 := Lib.hid hn6
      have HM6 := Lib.hid hm6
      have v0 := setAt_put (N' := (K : Int)) (A' := some ⟨gX, 0, none⟩) (l' := nw) (c' := nw) u0
      have v1 := (u1.far (q := ⟨w.heap.size, 0, none⟩) (by show w.heap.size + 1 ≠ w.heap.size; omega) (.int .i64 (K : Int))).far (q := ⟨w.heap.size, 1, none⟩) (by show w.heap.size + 1 ≠ w.heap.size; omega) (.slice (some ⟨gX, 0, none⟩) nw nw)
      have x0 := v1.c0
      have x1 := v1.c1
      have g0 := v1.free 0
      have g1 := v1.free 1
      have y1 := setAt_put (N' := (m : Int)) (A' := some ⟨gY, 0, none⟩) (l' := mw) (c' := mw) v1
      have y0 := (v0.far (q := ⟨w.heap.size + 1, 0, none⟩) (by show w.heap.size ≠ w.heap.size + 1; omega) (.int .i64 (m : Int))).far (q := ⟨w.heap.size + 1, 1, none⟩) (by show w.heap.size ≠ w.heap.size + 1; omega) (.slice (some ⟨gY, 0, none⟩) mw mw)
      have j0 := y0.c0
      have j1 := y0.c1
      have j2 := y1.c0
      have j3 := y1.c1
      have hfX : gX ≠ w.heap.size ∧ gX ≠ w.heap.size + 1 := by omega
      have hfY : gY ≠ w.heap.size ∧ gY ≠ w.heap.size + 1 := by omega
      have RX := Lib.hid ((((rX5.setOther (a := ⟨w.heap.size, 0, none⟩) (by exact hfX.1) (.int .i64 (K : Int))).setOther (a := ⟨w.heap.size, 1, none⟩) (by exact hfX.1) (.slice (some ⟨gX, 0, none⟩) nw nw)).setOther (a := ⟨w.heap.size + 1, 0, none⟩) (by exact hfX.2) (.int .i64 (m : Int))).setOther (a := ⟨w.heap.size + 1, 1, none⟩) (by exact hfX.2) (.slice (some ⟨gY, 0, none⟩) mw mw))
      have RY := Lib.hid ((((rY.setOther (a := ⟨w.heap.size, 0, none⟩) (by exact hfY.1) (.int .i64 (K : Int))).setOther (a := ⟨w.heap.size, 1, none⟩) (by exact hfY.1) (.slice (some ⟨gX, 0, none⟩) nw nw)).setOther (a := ⟨w.heap.size + 1, 0, none⟩) (by exact hfY.2) (.int .i64 (m : Int))).setOther (a := ⟨w.heap.size + 1, 1, none⟩) (by exact hfY.2) (.slice (some ⟨gY, 0, none⟩) mw mw))
      have B6 := Lib.hid ((((B5.setCell (p := ⟨w.heap.size, 0, none⟩) (by exact Nat.le_refl _) (.int .i64 (K : Int))).setCell (p := ⟨w.heap.size, 1, none⟩) (by exact Nat.le_refl _) (.slice (some ⟨gX, 0, none⟩) nw nw)).setCell (p := ⟨w.heap.size + 1, 0, none⟩) (by exact Nat.le_succ _) (.int .i64 (m : Int))).setCell (p := ⟨w.heap.size + 1, 1, none⟩) (by exact Nat.le_succ _) (.slice (some ⟨gY, 0, none⟩) mw mw))
      clear t0 t1 u0 u1 v0 v1 y0 y1 rX rX5 rY hra2 hrb hB B4 B5 b4 b5
      go_wp2_with fail
      refine bodyPost_ret (v := .tuple #[.agg #[.int .i64 K, .slice (some ⟨gX, 0, none⟩) nw nw], .agg #[.int .i64 m, .slice (some ⟨gY, 0, none⟩) mw mw]]) (by simp [results, Try.results16, go_sem, j0, j1, j2, j3]) rfl ?_
      exact ⟨gX, gY, by rw [HN6.out, HM6.out], ⟨by omega, by rw [HN6.out, ← HT.out]; exact RX.out⟩, ⟨by omega, by rw [HM6.out, ← HS.out]; exact RY.out⟩, B6.out⟩
/- the same words -/
theorem same_words {l : List Nat} {n : Nat} {T : Nat → Bool} (h : ∀ i, i ∈ l ↔ i < n ∧ T i = true) (m : Nat) : ∀ k, k < m → setF l k = bw T n k :=
  bt_ext (setF_u64 l m) (bw_u64 T m n) fun i _ => Bool.eq_iff_iff.2 (by rw [setF_bt, bw_bt, h])
end Go.Proofs.Ytmafnncpdccfdaa
