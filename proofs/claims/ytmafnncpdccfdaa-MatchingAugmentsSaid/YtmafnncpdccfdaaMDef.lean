/- The contract of the reference's Deficiency. -/
import Derived.Test.YtmafnncpdccfdaaMAwk
namespace Go.Proofs.Ytmafnncpdccfdaa
open Go.RowKit
def cntT (T : Nat → Bool) : Nat → Nat
  | 0 => 0
  | K + 1 => cntT T K + (if T K = true then 1 else 0)
theorem cntT_le (T : Nat → Bool) : ∀ K, cntT T K ≤ K
  | 0 => Nat.le_refl _
  | K + 1 => by have := cntT_le T K; show cntT T K + _ ≤ _; split <;> omega
/- the right nodes near the flagged ones, by the first K edges -/
def dN (E : Nat → Int × Int) (T : Nat → Bool) : Nat → Nat → Bool
  | 0 => fun _ => false
  | K + 1 => if T (E K).1.toNat = true then mark (dN E T K) (E K).2.toNat else dN E T K
def dC (E : Nat → Int × Int) (T : Nat → Bool) : Nat → Nat
  | 0 => 0
  | K + 1 => dC E T K + (if T (E K).1.toNat = true ∧ dN E T K (E K).2.toNat = false then 1 else 0)
theorem dC_le (E : Nat → Int × Int) (T : Nat → Bool) : ∀ K, dC E T K ≤ K
  | 0 => Nat.le_refl _
  | K + 1 => by have := dC_le E T K; show dC E T K + _ ≤ _; split <;> omega
theorem mark_old {s : Nat → Bool} {b : Nat} (h : s b = true) : mark s b = s := funext fun j => by
  unfold mark
  by_cases e : j = b
  · rw [if_pos e, e, h]
  · rw [if_neg e]
theorem defic_any (n m g k c : Nat) (A : Option Addr) (E : Nat → Int × Int) (T : Nat → Bool) (w : World) (h : Prs w A k E) (hT : w.rowIs g 4 n (bvals T)) (hv : VG n m k E) :
    Calls Try.prog 30 #[.int .i64 m, .slice A k c, .slice (some ⟨g, 0, none⟩) n n] w fun e w' => e = .returned (.int .i64 ((cntT T n : Nat) - (dC E T k : Nat))) ∧ Below w.heap.size w w' := by
  have hn := hv.n1
  have hm := hv.m1
  have hk := hv.k2
  have mk := make_bools m (by omega)
  have HV := Lib.hid hv; clear hv
  have HH := Lib.hid h; clear h
  have HT := Lib.hid hT; clear hT
  have b0 := below_new w (.cells (madeCells #[.bool false] m) 4)
  have r0 : (w.alloc (.cells (madeCells #[.bool false] m) 4)).rowIs w.heap.size 4 m (bvals (dN E T 0)) := row_of_made (z := .bool false) (heap_alloc_new w _)
  go_enter Try.func30, Try.ntmps30
  go_upto_region 2 with fail
  generalize w.alloc (.cells (madeCells #[.bool false] m) 4) = W at *
  clear mk
  go_wp2_with fail
  go_loopw [8, 9] (fun x i wr => ∃ K : Nat, K ≤ n ∧ i = .int .i64 K ∧ x = .int .i64 (cntT T K : Nat) ∧ wr = W) (fun _ i _ => n - (intOf i).toNat)
  case atStart => exact ⟨0, Nat.zero_le _, rfl, rfl, rfl⟩
  case round =>
    obtain ⟨K, hK, rfl, rfl, rfl⟩ := hrel
    have hle := cntT_le T K
    have hwrap : IntKind.i64.wrap ((K : Int) + 1) = (K : Int) + 1 := IntWalk.i64_in _ (by omega)
    have hwrap2 : IntKind.i64.wrap (((cntT T K : Nat) : Int) + 1) = ((cntT T K : Nat) : Int) + 1 := IntWalk.i64_in _ (by omega)
    by_cases hlt : K < n
    · have x0 : wr.cell? ⟨g, K, none⟩ = some (.bool (T K)) := (row_below HT.out b0).cell hlt
      cases hb : T K with
      | true =>
        have HC : Hid (cntT T (K + 1) = cntT T K + 1) := by show cntT T K + _ = _; rw [if_pos hb]
        rw [hb] at x0
        clear hb
        go_wp2_with fail
        go_roundw
        case rel => exact ⟨K + 1, hlt, by go_num, by rw [HC.out]; go_num, trivial⟩
        case measure => simp [intOf]; omega
      | false =>
        have HC : Hid (cntT T (K + 1) = cntT T K) := by show cntT T K + _ = _; rw [if_neg (by rw [hb]; exact Bool.false_ne_true)]; rfl
        rw [hb] at x0
        clear hb
        go_wp2_with fail
        go_roundw
        case rel => exact ⟨K + 1, hlt, by go_num, by rw [HC.out], trivial⟩
        case measure => simp [intOf]; omega
    · obtain rfl : K = n := by omega
      clear hwrap hwrap2
      go_wp2_with fail
      go_loopw [8, 10] (fun x i wr => ∃ K2 : Nat, K2 ≤ k ∧ i = .int .i64 K2 ∧ x = .int .i64 (((cntT T K : Nat) : Int) - ((dC E T K2 : Nat) : Int)) ∧ wr.rowIs w.heap.size 4 m (bvals (dN E T K2)) ∧ Below w.heap.size w wr) (fun _ i _ => k - (intOf i).toNat)
      case atStart => exact ⟨0, Nat.zero_le _, rfl, by show _ = Value.int .i64 (((cntT T K : Nat) : Int) - ((0 : Nat) : Int)); simp, r0, b0⟩
      case round =>
        clear r0 b0
        obtain ⟨K2, hK2, rfl, rfl, hRow, hB⟩ := hrel
        have hdl := dC_le E T K2
        by_cases hlt2 : K2 < k
        · obtain ⟨b, off, rfl, hbl, hcz⟩ := (HH.out.below hB) (by omega)
          obtain ⟨x0, x1⟩ := hcz K2 hlt2
          clear hcz
          obtain ⟨⟨g1, g2⟩, g3, g4⟩ := HV.out.ran K2 hlt2
          obtain ⟨a, ha⟩ := Int.eq_ofNat_of_zero_le g1
          obtain ⟨x, hx⟩ := Int.eq_ofNat_of_zero_le g3
          have han : a < K := by omega
          have hxm : x < m := by omega
          have hN : Hid (dN E T (K2 + 1) = if T a = true then mark (dN E T K2) x else dN E T K2) := by
            show (if T (E K2).1.toNat = true then mark (dN E T K2) (E K2).2.toNat else dN E T K2) = _
            rw [ha, hx]; rfl
          have hC : Hid (dC E T (K2 + 1) = dC E T K2 + (if T a = true ∧ dN E T K2 x = false then 1 else 0)) := by
            show dC E T K2 + (if T (E K2).1.toNat = true ∧ dN E T K2 (E K2).2.toNat = false then 1 else 0) = _
            rw [ha, hx]; rfl
          rw [ha] at x0
          rw [hx] at x1
          clear ha hx g1 g2 g3 g4
          have hwrap : IntKind.i64.wrap ((K2 : Int) + 1) = (K2 : Int) + 1 := IntWalk.i64_in _ (by omega)
          have hwrap2 : IntKind.i64.wrap (((cntT T K : Nat) : Int) - ((dC E T K2 : Nat) : Int) - 1) = ((cntT T K : Nat) : Int) - ((dC E T K2 : Nat) : Int) - 1 := IntWalk.i64_in _ (by omega)
          have y0 : wr.cell? ⟨g, a, none⟩ = some (.bool (T a)) := (row_below HT.out hB).cell han
          have z0 : wr.cell? ⟨w.heap.size, x, none⟩ = some (.bool (dN E T K2 x)) := hRow.cell hxm
          have f0 := hRow.frozen x
          by_cases hTa : T a = true
          · rw [hTa] at y0
            cases hd : dN E T K2 x with
            | true =>
              have HN2 : Hid (dN E T (K2 + 1) = dN E T K2) := by show _ = _; rw [hN.out, if_pos hTa, mark_old hd]
              have HC2 : Hid (dC E T (K2 + 1) = dC E T K2) := by show _ = _; rw [hC.out, if_neg (fun h => by rw [hd] at h; exact absurd h.2 (by decide))]; rfl
              rw [hd] at z0
              clear hd hTa hN hC
              go_wp2_with fail
              go_roundw
              case rel => exact ⟨K2 + 1, hlt2, by go_num, by rw [HC2.out], by rw [HN2.out]; exact hRow, hB⟩
              case measure => simp [intOf]; omega
            | false =>
              have HN2 : Hid (dN E T (K2 + 1) = mark (dN E T K2) x) := by show _ = _; rw [hN.out, if_pos hTa]
              have HC2 : Hid (dC E T (K2 + 1) = dC E T K2 + 1) := by show _ = _; rw [hC.out, if_pos ⟨hTa, hd⟩]
              rw [hd] at z0
              have hnew := row_mark (k := x) hRow
              have hBn := hB.setCell (p := ⟨w.heap.size, x, none⟩) (by exact Nat.le_refl _) (.bool true)
              clear hd hTa hN hC hRow hB
              go_wp2_with fail
              go_roundw
              case rel => exact ⟨K2 + 1, hlt2, by go_num, by rw [HC2.out]; go_num, by rw [HN2.out]; exact hnew, hBn⟩
              case measure => simp [intOf]; omega
          · have hTf : T a = false := by simpa using hTa
            have HN2 : Hid (dN E T (K2 + 1) = dN E T K2) := by show _ = _; rw [hN.out, if_neg hTa]
            have HC2 : Hid (dC E T (K2 + 1) = dC E T K2) := by show _ = _; rw [hC.out, if_neg (fun h => hTa h.1)]; rfl
            rw [hTf] at y0
            clear hTa hTf hN hC z0
            go_wp2_with fail
            go_roundw
            case rel => exact ⟨K2 + 1, hlt2, by go_num, by rw [HC2.out], by rw [HN2.out]; exact hRow, hB⟩
            case measure => simp [intOf]; omega
        · obtain rfl : K2 = k := by omega
          go_wp2_with fail
          go_ret
          exact ⟨rfl, hB⟩
end Go.Proofs.Ytmafnncpdccfdaa
