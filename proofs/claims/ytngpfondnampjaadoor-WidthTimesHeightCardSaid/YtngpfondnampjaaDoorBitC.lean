/- The contracts of package bits that make sets: Of. -/
import Derived.Test.YtngpfondnampjaaDoorMemo
namespace Go.Proofs.YtngpfondnampjaaDoor
open Go.RowKit
/- what a function leaves that returns a new set and no error -/
def SetOk (w : World) (N : Int) (m : Nat) (f : Nat → Nat) (e : Ending) (w' : World) : Prop :=
  ∃ g, e = .returned (.tuple #[.agg #[.int .i64 N, .slice (some ⟨g, 0, none⟩) m m], .int .i64 0]) ∧ w.heap.size ≤ g ∧ w'.rowIs g 60 m (fun k => .int .u64 (f k : Nat)) ∧ Below w.heap.size w w'
/- .. that returns an error -/
def SetErr (w : World) (er : Int) (e : Ending) (w' : World) : Prop := e = .returned (.tuple #[.agg #[.int .i64 0, .slice none 0 0], .int .i64 er]) ∧ Below w.heap.size w w'
theorem of_size (N : Int) (A : Option Addr) (n cap : Nat) (w : World) (hN : N < 0 ∨ 512 < N) : Calls Tryd.prog 57 #[.int .i64 N, .slice A n cap] w (SetErr w 2) := by
  have HN := Lib.hid hN; clear hN
  go_enter Tryd.func57, Tryd.ntmps57
  go_wp2_with fail
  refine (isSize_no _ _ HN.out).mono ?_; rintro e w' ⟨rfl, rfl⟩
  go_wp2_with fail
  refine bodyPost_ret (v := .tuple #[.agg #[.int .i64 0, .slice none 0 0], .int .i64 2]) (by simp [results, Tryd.results57, go_sem]) rfl ?_
  exact ⟨rfl, (Below.refl _ _).alloc (Nat.le_refl _) _⟩
def OfEnd (w : World) (N : Nat) (n : Nat) (z : Nat → Int) (v : Bool) (e : Ending) (w' : World) : Prop :=
  (v = true ∧ SetOk w N ((N + 63) / 64) (ow (fun k => (z k).toNat) n) e w') ∨ (v = false ∧ SetErr w 2 e w')
set_option maxHeartbeats 2000000 in
theorem of_any (N : Nat) (A : Option Addr) (n cap : Nat) (z : Nat → Int) (J : Nat) (v : Bool) (w : World) (hN : N ≤ 512) (h : Ints w A n z) (hn : n ≤ 1000000) (hJ : J ≤ n) (hz : ∀ k, k < J → 0 ≤ z k ∧ z k < N)
    (hv : (v = true ∧ J = n) ∨ (v = false ∧ J < n ∧ (z J < 0 ∨ N ≤ z J))) :
    Calls Tryd.prog 57 #[.int .i64 N, .slice A n cap] w (OfEnd w N n z v) := by
  have hmk := make_words ((N + 63) / 64) (by omega)
  have HI := Lib.hid h; clear h
  have HZ := Lib.hid hz; clear hz
  have HV := Lib.hid hv; clear hv
  have hwc := fun w => wordCount_any N w hN
  generalize hM : (N + 63) / 64 = m at *
  have HM := Lib.hid hM; clear hM
  have HWC := Lib.hid hwc; clear hwc
  go_enter Tryd.func57, Tryd.ntmps57
  go_wp2_with fail
  refine (isSize_yes _ _ (by omega) (by omega)).mono ?_; rintro e w' ⟨rfl, rfl⟩
  go_wp2_with fail
  refine (HWC.out _).mono ?_; rintro e w' ⟨rfl, rfl⟩
  go_wp2_with fail
  clear hmk
  have hr0 := (setAt_new w 0 none 0 0).alloc (.cells (madeCells #[.int .u64 0] m) 60)
  have hrow0 := World.rowIs_made (w.alloc (.cells #[.int .i64 0, .slice none 0 0] 28)) (.int .u64 0) m 60
  have he0 : (w.alloc (.cells #[.int .i64 0, .slice none 0 0] 28)).heap.size = w.heap.size + 1 := by simp
  rw [he0] at hrow0
  clear he0
  have hB0 : Below w.heap.size w ((w.alloc (.cells #[.int .i64 0, .slice none 0 0] 28)).alloc (.cells (madeCells #[.int .u64 0] m) 60)) := ((Below.refl _ _).alloc (Nat.le_refl _) _).alloc (by simp) _
  go_loopw [8, 18] (fun x i wr => ∃ K : Nat, K ≤ J ∧ i = .int .i64 K ∧ wr.rowIs (w.heap.size + 1) 60 m (fun k => .int .u64 (ow (fun k => (z k).toNat) K k : Nat)) ∧ SetAt wr w.heap.size 0 none 0 0 ∧ Below w.heap.size w wr) (fun _ i _ => J - (intOf i).toNat)
  case atStart => exact ⟨0, by omega, rfl, hrow0, hr0, hB0⟩
  case round =>
    clear hrow0 hr0 hB0
    obtain ⟨K, hK, rfl, hrow, hr, hB⟩ := hrel
    by_cases hlt : K < n
    · obtain ⟨b, off, rfl, hbl, hc⟩ := HI.out (by omega)
      have hcell : wr.cell? ⟨b, off + K, none⟩ = some (.int .i64 (z K)) := (hB.cell (p := ⟨b, off + K, none⟩) hbl).trans (hc K hlt)
      clear hc
      by_cases hlt2 : K < J
      · obtain ⟨hz0, hz1⟩ := HZ.out K hlt2
        have hrowS := hrow.set ((z K).toNat / 64) (.int .u64 (ow (fun k => (z k).toNat) (K + 1) ((z K).toNat / 64) : Nat))
        have hw := hrow.cell (i := (z K).toNat / 64) (by have := HM.out; omega)
        have hwf := hrow.frozen ((z K).toNat / 64)
        have hor := or_pow (ow (fun k => (z k).toNat) K ((z K).toNat / 64)) (z K).toNat (ow_u64 _ K _ _ (Nat.lt_succ_self _))
        have hstep : ow (fun k => (z k).toNat) K ((z K).toNat / 64) ||| 2 ^ ((z K).toNat % 64) = ow (fun k => (z k).toNat) (K + 1) ((z K).toNat / 64) := by show _ = wt (ow (fun k => (z k).toNat) K) (z K).toNat ((z K).toNat / 64); unfold wt; rw [if_pos rfl]
        have hsame : ∀ k, k ≠ (z K).toNat / 64 → ow (fun k => (z k).toNat) K k = ow (fun k => (z k).toNat) (K + 1) k := fun k hk => by show _ = wt (ow (fun k => (z k).toNat) K) (z K).toNat k; unfold wt; rw [if_neg hk]
        have HSAME := Lib.hid hsame; clear hsame
        have HROW := Lib.hid hrowS; clear hrowS
        rw [hstep] at hor
        have HST := Lib.hid hstep; clear hstep
        obtain ⟨zk, hzk⟩ : ∃ zk : Nat, z K = (zk : Int) := ⟨(z K).toNat, by omega⟩
        have hzn : (z K).toNat = zk := by omega
        rw [hzk] at hcell hz0 hz1
        rw [hzn] at hw hwf hor
        have HZN := Lib.hid hzn; clear hzn hzk
        have hzN : zk < N := by omega
        have hmb : zk / 64 < m := by have := HM.out; omega
        have hq0 : (0 : Int) ≤ (zk : Int) / 64 := by omega
        have hq1 : (zk : Int) / 64 < (m : Int) := by omega
        have hq2 : ((zk : Int) / 64).toNat = zk / 64 := by omega
        have hq3 : IntKind.i64.wrap ((zk : Int) / 64) = (zk : Int) / 64 := IntWalk.i64_in _ (by omega)
        have hz512 : zk < 512 := by omega
        have hq : (zk : Int).tdiv 64 = (zk : Int) / 64 := by rw [Int.tdiv_eq_ediv_of_nonneg (by omega)]
        go_wp2_with fail
        refine (isIndex_yes _ _ _ hz0 hz1).mono ?_; rintro e w' ⟨rfl, rfl⟩
        go_wp2_with fail
        go_region_with (go_at_call 83; with_reducible refine (bitOf_any _ _ hz512).mono ?_; rintro e w' ⟨rfl, rfl⟩)
        all_goals
          clear hq hq0 hq1 hq2 hq3
          go_wp2_with fail
          go_roundw
          case rel =>
            refine ⟨K + 1, by omega, by go_num, ?_, hr.far (by show w.heap.size ≠ w.heap.size + 1; omega) _, (hB.setCell (by show w.heap.size ≤ w.heap.size + 1; omega) _).drew⟩
            have hR := HROW.out
            rw [HZN.out] at hR
            refine hR.drew.congr fun k _ => ?_
            by_cases e : k = zk / 64
            · rw [if_pos e, e]
            · rw [if_neg e, HSAME.out k (by rw [HZN.out]; exact e)]
          case measure => simp [intOf]; omega
      · obtain rfl : K = J := by omega
        rcases HV.out with ⟨_, h2⟩ | ⟨rfl, _, hbad⟩
        · omega
        · have HX := Lib.hid hbad; clear hbad
          have r0 := hr.c0
          have r1 := hr.c1
          have f0 := hr.free 0
          have f1 := hr.free 1
          go_wp2_with fail
          refine (isIndex_no _ _ _ HX.out).mono ?_; rintro e w' ⟨rfl, rfl⟩
          go_wp2_with fail
          refine bodyPost_ret (v := .tuple #[.agg #[.int .i64 0, .slice none 0 0], .int .i64 2]) (by simp [results, Tryd.results57, go_sem, r0, r1]) rfl ?_
          exact Or.inr ⟨rfl, rfl, (hB.setCell (Nat.le_refl _) _).setCell (Nat.le_refl _) _⟩
    · rcases HV.out with ⟨rfl, h2⟩ | ⟨_, h2, _⟩
      · obtain rfl : K = n := by omega
        have HJ := Lib.hid h2; clear h2
        have r0 := hr.c0
        have r1 := hr.c1
        have f0 := hr.free 0
        have f1 := hr.free 1
        go_wp2_with fail
        refine bodyPost_ret (v := .tuple #[.agg #[.int .i64 N, .slice (some ⟨w.heap.size + 1, 0, none⟩) m m], .int .i64 0]) (by simp [results, Tryd.results57, go_sem, r0, r1]) rfl ?_
        refine Or.inl ⟨rfl, w.heap.size + 1, ?_, by omega, ?_, (hB.setCell (Nat.le_refl _) _).setCell (Nat.le_refl _) _⟩
        · rw [HM.out]
        · rw [HM.out]; exact (hrow.setOther (by show w.heap.size + 1 ≠ w.heap.size; omega) _).setOther (by show w.heap.size + 1 ≠ w.heap.size; omega) _
      · omega
end Go.Proofs.YtngpfondnampjaaDoor
