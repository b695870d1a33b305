/- The reference of sets: Members, Empty, Of. -/
import Derived.Test.YtakjdihhbndcnaaDoorRfA
namespace Go.Proofs.YtakjdihhbndcnaaDoor
open Go.RowKit
set_option maxHeartbeats 1000000 in
theorem refMembers_any (N : Nat) (A : Option Addr) (len cap : Nat) (f : Nat → Nat) (w : World) (h : Wds w A len f) (hN : N ≤ 64 * len) (hl : len ≤ 9) :
    Calls Tryd.prog 43 #[.agg #[.int .i64 N, .slice A len cap]] w (RowOut w (mem f N)) := by
  have HW := Lib.hid h; clear h
  go_enter Tryd.func43, Tryd.ntmps43
  go_wp2
  go_loopw [3, 4] (fun x i wr => ∃ (I : Nat) (v : Value), I ≤ N ∧ i = .int .i64 I ∧ v = x ∧ wr.ownsRow (w.heap.size + 1) 3 1 v (mem f I).length (vals (mem f I)) ∧ One w wr N A len cap) (fun _ i _ => N - (intOf i).toNat)
  case atStart => exact ⟨0, _, by omega, rfl, rfl, World.ownsRow_nil _ _ _ _, one_new w N A len cap⟩
  case round =>
    obtain ⟨I, v, hI, rfl, rfl, hown, hO⟩ := hrel
    have c0 := hO.s.c0
    have c1 := hO.s.c1
    by_cases hlt : I < N
    · have HW2 : Hid (Wds wr A len f) := HW.out.below hO.b
      have HM := Lib.hid (mem_succ f I)
      have hml := mem_len_le f I
      cases hb : bt f I
      · have HB := Lib.hid hb; clear hb
        go_wp2_with fail
        refine (bit_any N A len cap f I false _ HW2.out (by omega) (by omega) HB.out).mono ?_; rintro e w2 ⟨rfl, b2⟩
        have hown2 := own_below hown b2
        go_wp2_with fail
        go_roundw
        case rel => exact ⟨I + 1, v, by omega, by go_num, rfl, by rw [HM.out, HB.out]; simpa using hown2, hO.next b2⟩
        case measure => simp [intOf]; omega
      · have HB := Lib.hid hb; clear hb
        go_wp2_with fail
        refine (bit_any N A len cap f I true _ HW2.out (by omega) (by omega) HB.out).mono ?_; rintro e w2 ⟨rfl, b2⟩
        have hown2 := own_below hown b2
        have hO2 := hO.next b2
        go_wp2_with (at_builtin; refine append_one rfl (.tmp 14) (.tmp 16) rfl (w.heap.size + 1) v (mem f I) I I w2 rfl hown2 rfl (by omega) (by have := hO2.s.lt; omega) rfl ?_)
        intro v' w3 hown3 hg3
        go_wp2_with fail
        go_roundw
        case rel => exact ⟨I + 1, v', by omega, by go_num, rfl, by rw [HM.out, HB.out]; simpa using hown3, one_grown hO2 hown2 hg3⟩
        case measure => simp [intOf]; omega
    · obtain rfl : I = N := by omega
      go_wp2_with fail
      go_ret
      exact ⟨v, rfl, own_mono hown (by omega), hO.b⟩
theorem refEmpty_any (N : Nat) (w : World) (hN : N ≤ 512) :
    Calls Tryd.prog 76 #[.int .i64 N] w (SetNew w N ((N + 63) / 64) (fun _ => 0)) := by
  have hmk := make_words ((N + 63) / 64) (by omega)
  have e1 : (((N + 63) / 64 : Nat) : Int) = ((N : Int) + 63) / 64 := by omega
  rw [e1] at hmk
  clear e1
  go_enter Tryd.func76, Tryd.ntmps76
  go_wp2
  refine bodyPost_ret (v := .agg #[.int .i64 N, .slice (some ⟨w.heap.size + 1, 0, none⟩) ((N + 63) / 64) ((N + 63) / 64)]) (by simp [results, Tryd.results76, go_sem]) rfl ?_
  have h2 := World.rowIs_made (w.alloc (.cells #[.int .i64 N, .slice (some ⟨w.heap.size + 1, 0, none⟩) ((N + 63) / 64) ((N + 63) / 64)] 37)) (.int .u64 0) ((N + 63) / 64) 59
  have e : (w.alloc (.cells #[.int .i64 N, .slice (some ⟨w.heap.size + 1, 0, none⟩) ((N + 63) / 64) ((N + 63) / 64)] 37)).heap.size = w.heap.size + 1 := by simp
  rw [e] at h2
  exact ⟨w.heap.size + 1, rfl, by omega, h2, ((Below.refl _ _).alloc (Nat.le_refl _) _).alloc (by simp) _⟩
set_option maxHeartbeats 2000000 in
theorem refOf_any (N : Nat) (A : Option Addr) (n cap : Nat) (z : Nat → Nat) (w : World) (hN : N ≤ 512) (h : Ints w A n (fun k => (z k : Int))) (hn : n ≤ 100000) (hz : ∀ k, k < n → z k < N) :
    Calls Tryd.prog 42 #[.int .i64 N, .slice A n cap] w (SetNew w N ((N + 63) / 64) (ow z n)) := by
  have HI := Lib.hid h; clear h
  have HZ := Lib.hid hz; clear hz
  go_enter Tryd.func42, Tryd.ntmps42
  go_wp2_with fail
  refine (refEmpty_any N _ hN).mono ?_; rintro e w2 ⟨g, rfl, hg, hrow, b2⟩
  have hr := (setAt_new w 0 none 0 0).below b2
  have hB := below_next ((Below.refl _ _).alloc (Nat.le_refl _) _) b2
  have hgl := hrow.lt
  go_wp2_with fail
  generalize hM : (N + 63) / 64 = m at *
  have HM := Lib.hid hM; clear hM
  have hs := setAt_new w2 N (some ⟨g, 0, none⟩) m m
  have hr2 := hr.alloc (.cells #[.int .i64 N, .slice (some ⟨g, 0, none⟩) m m] 37)
  have hrow2 := hrow.alloc (.cells #[.int .i64 N, .slice (some ⟨g, 0, none⟩) m m] 37)
  have hB2 := hB.alloc hB.size (.cells #[.int .i64 N, .slice (some ⟨g, 0, none⟩) m m] 37)
  have hlt2 := hr.lt
  clear hB hrow hr b2
  generalize hp : w2.heap.size = p at *
  go_loopw [6] (fun i wr => ∃ K : Nat, K ≤ n ∧ i = .int .i64 K ∧ wr.rowIs g 59 m (fun k => .int .u64 (ow z K k : Nat)) ∧ SetAt wr p N (some ⟨g, 0, none⟩) m m ∧ SetAt wr w.heap.size 0 none 0 0 ∧ Below w.heap.size w wr) (fun i _ => n - (intOf i).toNat)
  case atStart => exact ⟨0, by omega, rfl, hrow2, hs, hr2, hB2⟩
  case round =>
    clear hrow2 hs hr2 hB2
    obtain ⟨K, hK, rfl, hrow, hs, hr, hB⟩ := hrel
    by_cases hlt : K < n
    · obtain ⟨b, off, rfl, hbl, hc⟩ := HI.out (by omega)
      have hzk := HZ.out K hlt
      have hcell : wr.cell? ⟨b, off + K, none⟩ = some (.int .i64 (z K : Int)) := (hB.cell (p := ⟨b, off + K, none⟩) hbl).trans (hc K hlt)
      have hrowS := hrow.set (z K / 64) (.int .u64 (ow z (K + 1) (z K / 64) : Nat))
      have hw := hrow.cell (i := z K / 64) (by have := HM.out; omega)
      have hwf := hrow.frozen (z K / 64)
      have hor := or_pow (ow z K (z K / 64)) (z K) (ow_u64 z K _ _ (Nat.lt_succ_self _))
      have hstep : ow z K (z K / 64) ||| 2 ^ (z K % 64) = ow z (K + 1) (z K / 64) := by show _ = wt (ow z K) (z K) (z K / 64); unfold wt; rw [if_pos rfl]
      have hsame : ∀ k, k ≠ z K / 64 → ow z K k = ow z (K + 1) k := fun k hk => by show _ = wt (ow z K) (z K) k; unfold wt; rw [if_neg hk]
      have HSAME := Lib.hid hsame; clear hsame
      have HROW := Lib.hid hrowS; clear hrowS
      rw [hstep] at hor
      generalize z K = zk at *
      have HST := Lib.hid hstep; clear hstep hc
      have c1 := hs.c1
      have hsh := shl_one zk
      have hq : (zk : Int).tdiv 64 = ((zk / 64 : Nat) : Int) := by rw [Int.tdiv_eq_ediv_of_nonneg (by omega)]; rfl
      have hrm : (zk : Int).tmod 64 = ((zk % 64 : Nat) : Int) := by rw [Int.tmod_eq_emod_of_nonneg (by omega)]; rfl
      have hmb : zk / 64 < m := by have := HM.out; omega
      go_wp2_with fail
      go_region
      go_wp2_with fail
      go_roundw
      case rel =>
        refine ⟨K + 1, by omega, by go_num, ?_, hs.far (by show p ≠ g; omega) _, hr.far (by show w.heap.size ≠ g; have := hg; simp at this; omega) _, (hB.setCell (by show w.heap.size ≤ g; have := hg; simp at this; omega) _).drew⟩
        refine HROW.out.drew.congr fun k _ => ?_
        by_cases e : k = zk / 64
        · rw [if_pos e, e]
        · rw [if_neg e, HSAME.out k e]
      case measure => simp [intOf]; omega
    · obtain rfl : K = n := by omega
      have c0 := hs.c0
      have c1 := hs.c1
      have r0 := hr.c0
      have r1 := hr.c1
      have f0 := hr.free 0
      have f1 := hr.free 1
      go_wp2_with fail
      refine bodyPost_ret (v := .agg #[.int .i64 N, .slice (some ⟨g, 0, none⟩) m m]) (by simp [results, Tryd.results42, go_sem, r0, r1]) rfl ?_
      have hgw : w.heap.size < g := by have := hg; simp at this; omega
      exact ⟨g, rfl, by omega, (hrow.setOther (by show g ≠ w.heap.size; omega) _).setOther (by show g ≠ w.heap.size; omega) _, (hB.setCell (Nat.le_refl _) _).setCell (Nat.le_refl _) _⟩
end Go.Proofs.YtakjdihhbndcnaaDoor
