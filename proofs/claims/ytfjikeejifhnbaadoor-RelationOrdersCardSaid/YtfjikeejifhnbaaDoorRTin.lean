/- The reference's Inverse of a table. -/
import Derived.Test.YtfjikeejifhnbaaDoorRTab
namespace Go.Proofs.YtfjikeejifhnbaaDoor
open Go.RowKit
set_option maxRecDepth 100000 in
set_option maxHeartbeats 4000000 in
theorem refInverse_any (v0 : Value) (n : Nat) (B0 C0 : Nat → Nat) (T : Nat → Nat → Bool) (w : World) (h : BTab w 0 v0 n n B0 C0 T) (hn : n ≤ 512) :
    Calls Tryd.prog 26 #[v0] w (TabOk w n (inv T)) := by
  obtain ⟨A, c, rfl⟩ := h.form
  have HH := Lib.hid h; clear h
  have hmk := make_bools n (by omega)
  go_enter Tryd.func26, Tryd.ntmps26
  go_wp2_with fail
  go_loopw [3, 4, 5, 6] (fun x i _ _ wr => ∃ (K : Nat) (v : Value) (B C : Nat → Nat), v = x ∧ i = .int .i64 K ∧ K ≤ n ∧ BTab wr w.heap.size v K n B C (inv T) ∧ Below w.heap.size w wr) (fun _ i _ _ _ => n - (intOf i).toNat)
  case atStart => exact ⟨0, _, fun _ => 0, fun _ => 0, rfl, rfl, by omega, ⟨World.ownsRow_nil _ _ _ _, fun i hi => absurd hi (Nat.not_lt_zero _), fun i _ hi => absurd hi (Nat.not_lt_zero _)⟩, Below.refl _ _⟩
  case round =>
    obtain ⟨K, v, B, C, rfl, rfl, hK, hBT, hB⟩ := hrel
    by_cases hlt : K < n
    · have hbw : w.heap.size ≤ wr.heap.size := hB.size
      have bA : Below wr.heap.size wr (wr.alloc (.cells (madeCells #[.bool false] n) 4)) := (Below.refl _ _).alloc (Nat.le_refl _) _
      have hrow := (brow_made wr w.heap.size n hbw (by omega)).congr (h := fun j => if j < 0 then inv T K j else false) (fun j _ => by rw [if_neg (Nat.not_lt_zero _)])
      have hBA := hBT.below bA
      have BA := below_next hB bA
      have hfresh : Hid (∀ i, i < K → B i ≠ wr.heap.size) := fun i hi e => by have := (hBT.r i hi).lt.2; omega
      go_wp2_with fail
      clear hBT hB bA
      generalize wr.heap.size = g at *
      generalize wr.alloc (.cells (madeCells #[.bool false] n) 4) = W1 at *
      go_loopw [6] (fun j w2 => ∃ D : Nat, D ≤ n ∧ j = .int .i64 D ∧ BTab w2 w.heap.size v K n B C (inv T) ∧ BRow w2 w.heap.size g n n (fun x => if x < D then inv T K x else false) ∧ Below w.heap.size w w2) (fun j _ => n - (intOf j).toNat)
      case atStart => exact ⟨0, by omega, rfl, hBA, hrow, BA⟩
      case round =>
        clear hBA hrow BA
        obtain ⟨D, hD, rfl, hBT, hrow, hB⟩ := hrel
        by_cases hlt2 : D < n
        · have HB := HH.out.below hB
          obtain ⟨gT, rfl, _, y0⟩ := HB.cell hlt2
          have y1 := (HB.r D hlt2).cell hlt
          have z0 := hrow.cell hlt2
          have z1 := hrow.frozen D
          have hq : T D K = inv T K D := rfl
          have HQ := Lib.hid hq
          clear HB hq
          generalize T D K = y at *
          go_wp2_with fail
          go_roundw
          case rel =>
            refine ⟨D + 1, by omega, by go_num, hBT.far hrow hfresh.out _, ?_, hB.setCell (p := ⟨g, D, none⟩) hbw _⟩
            refine (hrow.set D _).congr (fun x _ => ?_)
            by_cases hx : x = D
            · rw [if_pos hx, if_pos (by omega), hx]; exact HQ.out
            · rw [if_neg hx]
              by_cases hx2 : x < D
              · rw [if_pos hx2, if_pos (by omega)]
              · rw [if_neg hx2, if_neg (by omega)]
          case measure => simp [intOf]; omega
        · obtain rfl : D = n := by omega
          have hbase : w.heap.size ≤ wr.heap.size := hB.size
          go_wp2_with (at_builtin; refine append_brow rfl (.tmp 32) (.tmp 34) rfl w.heap.size v K D g D B C (inv T) _ wr rfl hBT hrow rfl (by omega) hbase hfresh.out ?_)
          intro g' cap w5 hBT5 hg5
          have bP : Below wr.heap.size wr (wr.alloc (.cells #[.slice (some ⟨g, 0, none⟩) D D] 57)) := (Below.refl _ _).alloc (Nat.le_refl _) _
          have hownA := own_below hBT.o bP
          have B5 := grown_below2 (below_next hB bP) hownA (by omega) hg5
          go_wp2_with fail
          go_roundw
          case rel =>
            refine ⟨K + 1, _, _, _, rfl, by go_num, by omega, hBT5.congr (fun i hi j hj => ?_), B5⟩
            by_cases e : i = K
            · rw [if_pos e, e]; simp [hj]
            · rw [if_neg e]
          case measure => simp [intOf]; omega
    · obtain rfl : K = n := by omega
      go_wp2_with fail
      go_ret
      exact ⟨v, B, C, rfl, hBT, hB⟩
end Go.Proofs.YtfjikeejifhnbaaDoor
