/- The reference's set and Same. -/
import Derived.Test.YtmafnncpdccfdaaMSet
namespace Go.Proofs.Ytmafnncpdccfdaa
open Go.RowKit
/- the words of the first K numbers that are marked -/
def bw (B : Nat → Bool) : Nat → Nat → Nat
  | 0 => fun _ => 0
  | K + 1 => if B K = true then wt (bw B K) K else bw B K
theorem bw_u64 (B : Nat → Bool) (m : Nat) : ∀ K, U64 (bw B K) m
  | 0 => fun k _ => by show 0 < _; omega
  | K + 1 => by
    intro k hk
    have ih := bw_u64 B m K
    show (if B K = true then wt (bw B K) K else bw B K) k < _
    by_cases e : B K = true
    · rw [if_pos e]
      unfold wt
      by_cases e2 : k = K / 64
      · rw [if_pos e2]
        exact or_u64 (ih k hk) (pow_lt _ (Nat.mod_lt _ (by decide)))
      · rw [if_neg e2]; exact ih k hk
    · rw [if_neg e]; exact ih k hk
theorem bw_bt (B : Nat → Bool) (i : Nat) : ∀ K, bt (bw B K) i = true ↔ i < K ∧ B i = true
  | 0 => by simp [bw, bt]
  | K + 1 => by
    have ih := bw_bt B i K
    show bt (if B K = true then wt (bw B K) K else bw B K) i = true ↔ _
    by_cases e : B K = true
    · rw [if_pos e, bt_wt, Bool.or_eq_true, ih, decide_eq_true_iff]
      constructor
      · rintro (h | h)
        · exact ⟨by omega, h.2⟩
        · subst h; exact ⟨by omega, e⟩
      · rintro ⟨h1, h2⟩
        by_cases h3 : i = K
        · exact Or.inr h3
        · exact Or.inl ⟨by omega, h2⟩
    · rw [if_neg e, ih]
      constructor
      · rintro ⟨h1, h2⟩; exact ⟨by omega, h2⟩
      · rintro ⟨h1, h2⟩
        have h3 : i ≠ K := fun h => by subst h; exact e h2
        exact ⟨by omega, h2⟩
theorem bw_vld {n : Nat} (hn : n ≤ 512) (B : Nat → Bool) : Vld (n : Int) ((n + 63) / 64) (bw B n) := by
  refine ⟨by omega, by omega, by simp, fun i hi _ => ?_⟩
  simp only [Int.toNat_natCast] at hi
  cases hb : bt (bw B n) i
  · rfl
  · have := ((bw_bt B i n).1 hb).1; omega
theorem setAt_ret {w : World} {p : Nat} {N : Int} {A : Option Addr} {l c : Nat} (h : SetAt w p N A l c) : w.cell? ⟨p, 0, none⟩ = some (.int .i64 N) ∧ w.cell? ⟨p, 1, none⟩ = some (.slice A l c) := ⟨h.c0, h.c1⟩
set_option maxRecDepth 100000 in
set_option maxHeartbeats 4000000 in
theorem refSet_any (g n c : Nat) (B : Nat → Bool) (w : World) (h : w.rowIs g 4 n (fun j => .bool (B j))) (hn : n ≤ 512) :
    Calls Try.prog 25 #[.slice (some ⟨g, 0, none⟩) n c] w (SetNew w n ((n + 63) / 64) (bw B n)) := by
  have HH := Lib.hid h
  have hgl := h.lt
  clear h
  obtain ⟨m, hm⟩ : ∃ m, (n + 63) / 64 = m := ⟨_, rfl⟩
  have hm9 : m ≤ 9 := by omega
  have hmk := make_words m hm9
  have hq0 : ((n : Int) + 63).tdiv 64 = (m : Int) := by rw [Int.tdiv_eq_ediv_of_nonneg (by omega)]; omega
  have hq1 : ((n : Int) + 63) / 64 = (m : Int) := by omega
  have HM := Lib.hid hm
  rw [hm]
  clear hm
  have s0 := setAt_new w 0 none 0 0
  have B0 := below_new w (.cells #[.int .i64 0, .slice none 0 0] 30)
  have hrow0 := World.rowIs_made (w.alloc (.cells #[.int .i64 0, .slice none 0 0] 30)) (.int .u64 0) m 64
  rw [show (w.alloc (.cells #[.int .i64 0, .slice none 0 0] 30)).heap.size = w.heap.size + 1 by simp] at hrow0
  have s1 := s0.alloc (.cells (madeCells #[.int .u64 0] m) 64)
  have B1 := B0.alloc B0.size (.cells (madeCells #[.int .u64 0] m) 64)
  have t2 := setAt_new ((w.alloc (.cells #[.int .i64 0, .slice none 0 0] 30)).alloc (.cells (madeCells #[.int .u64 0] m) 64)) n (some ⟨w.heap.size + 1, 0, none⟩) m m
  rw [show ((w.alloc (.cells #[.int .i64 0, .slice none 0 0] 30)).alloc (.cells (madeCells #[.int .u64 0] m) 64)).heap.size = w.heap.size + 2 by simp] at t2
  have s2 := s1.alloc (.cells #[.int .i64 n, .slice (some ⟨w.heap.size + 1, 0, none⟩) m m] 30)
  have B2 := B1.alloc B1.size (.cells #[.int .i64 n, .slice (some ⟨w.heap.size + 1, 0, none⟩) m m] 30)
  have hrow2 := hrow0.alloc (.cells #[.int .i64 n, .slice (some ⟨w.heap.size + 1, 0, none⟩) m m] 30)
  clear s0 B0 s1 B1 hrow0
  go_enter Try.func25, Try.ntmps25
  go_wp2_with fail
  clear hmk hq0 hq1
  generalize ((w.alloc (.cells #[.int .i64 0, .slice none 0 0] 30)).alloc (.cells (madeCells #[.int .u64 0] m) 64)).alloc (.cells #[.int .i64 n, .slice (some ⟨w.heap.size + 1, 0, none⟩) m m] 30) = W at *
  go_loopw [4] (fun i wr => ∃ K : Nat, K ≤ n ∧ i = .int .i64 K ∧ wr.rowIs (w.heap.size + 1) 64 m (fun k => .int .u64 (bw B K k : Nat)) ∧ SetAt wr w.heap.size 0 none 0 0 ∧ SetAt wr (w.heap.size + 2) n (some ⟨w.heap.size + 1, 0, none⟩) m m ∧ Below w.heap.size w wr) (fun i _ => n - (intOf i).toNat)
  case atStart => exact ⟨0, by omega, rfl, hrow2, s2, t2, B2⟩
  case round =>
    clear hrow2 s2 t2 B2
    obtain ⟨K, hK, rfl, hR, hS, hT, hB⟩ := hrel
    have hwrap : IntKind.i64.wrap ((K : Int) + 1) = (K : Int) + 1 := IntWalk.i64_in _ (by omega)
    by_cases hlt : K < n
    · have z0 := (hB.cell (p := ⟨g, K, none⟩) hgl).trans (HH.out.cell hlt)
      cases hb : B K with
      | false =>
        have he : Hid (bw B (K + 1) = bw B K) := by show (if B K = true then _ else _) = _; rw [hb]; rfl
        rw [hb] at z0
        clear hb
        go_wp2_with fail
        go_roundw
        case rel => exact ⟨K + 1, by omega, by go_num, by rw [he.out]; exact hR, hS, hT, hB⟩
        case measure => simp [intOf]; omega
      | true =>
        have he : Hid (bw B (K + 1) = wt (bw B K) K) := by show (if B K = true then _ else _) = _; rw [hb]; rfl
        rw [hb] at z0
        have hmb : K / 64 < m := by have := HM.out; omega
        have hwd := hR.cell hmb
        have hwf := hR.frozen (K / 64)
        have hor := or_pow (bw B K (K / 64)) K (bw_u64 B m K _ hmb)
        have HROW := Lib.hid (hR.set (K / 64) (.int .u64 (bw B K (K / 64) ||| 2 ^ (K % 64) : Nat)))
        have k1 := hT.c1
        have hq0 : (0 : Int) ≤ (K : Int) / 64 := by omega
        have hq1 : (K : Int) / 64 < (m : Int) := by omega
        have hq2 : ((K : Int) / 64).toNat = K / 64 := by omega
        have hq3 : IntKind.i64.wrap ((K : Int) / 64) = (K : Int) / 64 := IntWalk.i64_in _ (by omega)
        have hq4 : (K : Int).tdiv 64 = (K : Int) / 64 := by rw [Int.tdiv_eq_ediv_of_nonneg (by omega)]
        have hq5 : (K : Int).tmod 64 = (K : Int) % 64 := by rw [Int.tmod_eq_emod_of_nonneg (by omega)]
        have hq6 : ((K : Int) % 64).toNat = K % 64 := by omega
        have hq7 : (0 : Int) ≤ (K : Int) % 64 := by omega
        have hsh := shl_one K
        obtain ⟨xw, hxw⟩ : ∃ xw, bw B K (K / 64) = xw := ⟨_, rfl⟩
        rw [hxw] at hwd hor
        have HXW := Lib.hid hxw
        clear hb hxw
        go_upto_region 6 with fail
        go_still_tail 15, (by kernel_rfl)
        change wpList _ _ _ _ _ wr.drew
        have hwd2 : wr.drew.cell? ⟨w.heap.size + 1, K / 64, none⟩ = _ := hwd
        have hwf2 : wr.drew.frozen? ⟨w.heap.size + 1, K / 64, none⟩ = false := hwf
        have hS2 : SetAt wr.drew w.heap.size 0 none 0 0 := hS
        have hT2 : SetAt wr.drew (w.heap.size + 2) n (some ⟨w.heap.size + 1, 0, none⟩) m m := hT
        have hB2 := hB.drew
        have hR2 : wr.drew.rowIs (w.heap.size + 1) 64 m (fun k => .int .u64 (bw B K k : Nat)) := hR
        generalize wr.drew = W1 at *
        go_wp2_with fail
        go_roundw
        case rel =>
          refine ⟨K + 1, by omega, by go_num, ?_, hS2.far (by show w.heap.size ≠ w.heap.size + 1; omega) _, hT2.far (by show w.heap.size + 2 ≠ w.heap.size + 1; omega) _, hB2.setCell (by show w.heap.size ≤ w.heap.size + 1; omega) _⟩
          refine (hR2.set (K / 64) _).congr fun k _ => ?_
          rw [he.out]
          unfold wt
          by_cases e : k = K / 64
          · rw [if_pos e, if_pos e, e, HXW.out]
          · rw [if_neg e, if_neg e]
        case measure => simp [intOf]; omega
    · obtain rfl : K = n := by omega
      have r0 := hS.c0
      have r1 := hS.c1
      have f0 := hS.free 0
      have f1 := hS.free 1
      have t0 := hT.c0
      have t1 := hT.c1
      have s3 := setAt_put (N' := (K : Int)) (A' := some ⟨w.heap.size + 1, 0, none⟩) (l' := m) (c' := m) hS
      have k0 := s3.c0
      have k1 := s3.c1
      go_wp2_with fail
      refine bodyPost_ret (v := .agg #[.int .i64 K, .slice (some ⟨w.heap.size + 1, 0, none⟩) m m]) (by simp [results, Try.results25, go_sem, k0, k1]) rfl ?_
      exact ⟨w.heap.size + 1, rfl, by omega, (hR.setOther (by show w.heap.size + 1 ≠ w.heap.size; omega) _).setOther (by show w.heap.size + 1 ≠ w.heap.size; omega) _, (hB.setCell (Nat.le_refl _) _).setCell (Nat.le_refl _) _⟩
/- Same, of two sets with the same words -/
set_option maxRecDepth 100000 in
set_option maxHeartbeats 4000000 in
theorem refSame_yes (N : Int) (A B : Option Addr) (m ca cb : Nat) (f : Nat → Nat) (w : World) (ha : Wds w A m f) (hb : Wds w B m f) (hm : m ≤ 1000) :
    Calls Try.prog 15 #[.agg #[.int .i64 N, .slice A m ca], .agg #[.int .i64 N, .slice B m cb]] w fun e w' => e = .returned (.bool true) ∧ Below w.heap.size w w' := by
  have HA := Lib.hid ha; clear ha
  have HB := Lib.hid hb; clear hb
  have s0 := (setAt_new w N A m ca).alloc (.cells #[.int .i64 N, .slice B m cb] 30)
  have s1 := setAt_new (w.alloc (.cells #[.int .i64 N, .slice A m ca] 30)) N B m cb
  rw [show (w.alloc (.cells #[.int .i64 N, .slice A m ca] 30)).heap.size = w.heap.size + 1 by simp] at s1
  have b0 := (below_new w (.cells #[.int .i64 N, .slice A m ca] 30)).alloc (below_new w _).size (.cells #[.int .i64 N, .slice B m cb] 30)
  have c0 := s0.c0
  have c1 := s0.c1
  have d0 := s1.c0
  have d1 := s1.c1
  have hn1 : (N != N) = false := by simp
  have hn2 : ((m : Int) != (m : Int)) = false := by simp
  go_enter Try.func15, Try.ntmps15
  go_wp2_with fail
  clear c0 c1 d0 d1
  go_loopw [5] (fun i wr => ∃ K : Nat, K ≤ m ∧ i = .int .i64 K ∧ SetAt wr w.heap.size N A m ca ∧ SetAt wr (w.heap.size + 1) N B m cb ∧ Below w.heap.size w wr) (fun i _ => m - (intOf i).toNat)
  case atStart => exact ⟨0, by omega, rfl, s0, s1, b0⟩
  case round =>
    clear s0 s1 b0
    obtain ⟨K, hK, rfl, hS, hT, hB⟩ := hrel
    have c1 := hS.c1
    have d1 := hT.c1
    have hwrap : IntKind.i64.wrap ((K : Int) + 1) = (K : Int) + 1 := IntWalk.i64_in _ (by omega)
    by_cases hlt : K < m
    · obtain ⟨b1, o1, rfl, _, h1⟩ := (HA.out.below hB).2 (by omega)
      obtain ⟨b2, o2, rfl, _, h2⟩ := (HB.out.below hB).2 (by omega)
      have x1 := h1 K hlt
      have x2 := h2 K hlt
      clear h1 h2
      generalize f K = y at *
      have hny : ((y : Int) != (y : Int)) = false := by simp
      go_wp2_with fail
      go_quiet (fail)
      have hS2 := fun k => (show SetAt (wr.drewN k) w.heap.size N (some ⟨b1, o1, none⟩) m ca from hS)
      have hT2 := fun k => (show SetAt (wr.drewN k) (w.heap.size + 1) N (some ⟨b2, o2, none⟩) m cb from hT)
      go_wp2_with fail
      go_roundw
      case rel => exact ⟨K + 1, by omega, by go_num, hS2 _, hT2 _, below_drewN hB _⟩
      case measure => simp [intOf]; omega
    · go_wp2_with fail
      go_ret
      exact ⟨rfl, hB⟩
end Go.Proofs.Ytmafnncpdccfdaa
