/- The reference's binomial coefficient: the triangle's row, each number kept at most one above the limit. -/
import Derived.Test.YtcgmbgamhlfpcaaDoorPascalWalk
import Derived.Test.YtcgmbgamhlfpcaaDoorSumsWalk
import Derived.Test.YtcgmbgamhlfpcaaDoorRow
import Derived.Deep.OwnRows
import Derived.RegionTactic
namespace Go.Proofs.YtcgmbgamhlfpcaaDoor
open Go.RowKit
theorem Tryd.info3 : (Tryd.prog.info? 3).map (fun i => (i.zero, i.size, i.bytes)) = some (some (.int .i64 0), 1, 8) := by kernel_rfl
def sat (x : Nat) : Int := if x ≤ 1125899906842625 then x else 1125899906842625
theorem sat_bd (x : Nat) : 0 ≤ sat x ∧ sat x ≤ 1125899906842625 := by unfold sat; split <;> omega
theorem sat_small {x : Nat} (h : x ≤ 1125899906842625) : sat x = x := by unfold sat; rw [if_pos h]
theorem sat_great {x : Nat} (h : 1125899906842625 < x) : sat x = 1125899906842625 := by unfold sat; rw [if_neg (by omega)]
theorem sat_add (x y : Nat) : sat (x + y) = if sat x + sat y ≤ 1125899906842625 then sat x + sat y else 1125899906842625 := by
  unfold sat; repeat' split
  all_goals omega
/- what the row holds while round i (0 at first) has gone down to j -/
def midRow (i j : Nat) : Nat → Int := fun t => if t ≤ j then sat (ch i t) else sat (ch (i + 1) t)
theorem midRow_top (i k t : Nat) (h : t ≤ k) : midRow i k t = sat (ch i t) := by unfold midRow; rw [if_pos h]
theorem midRow_down (i t : Nat) : midRow i 0 t = sat (ch (i + 1) t) := by
  unfold midRow
  by_cases h : t ≤ 0
  · obtain rfl : t = 0 := by omega
    rw [if_pos h, ch_zero, ch_zero]
  · rw [if_neg h]
theorem midRow_step (i J n : Nat) (v : Int) (hv : v = sat (ch (i + 1) (J + 1))) : ∀ t, t < n → upd (midRow i (J + 1)) (J + 1) v t = midRow i J t := by
  intro t _
  unfold upd midRow
  by_cases e : t = J + 1
  · subst e; rw [if_pos rfl, if_neg (by omega), hv]
  · rw [if_neg e]
    by_cases h : t ≤ J
    · rw [if_pos (by omega), if_pos h]
    · rw [if_neg (by omega), if_neg h]
theorem midRow_twice (i J n : Nat) (u v : Int) (hv : v = sat (ch (i + 1) (J + 1))) : ∀ t, t < n → upd (upd (midRow i (J + 1)) (J + 1) u) (J + 1) v t = midRow i J t := by
  intro t ht
  rw [← midRow_step i J n v hv t ht]
  unfold upd
  by_cases e : t = J + 1
  · rw [if_pos e, if_pos e]
  · rw [if_neg e, if_neg e, if_neg e]
theorem made_row (n : Nat) : madeCells #[.int .i64 0] n = rowArr (fun _ => 0) n := by
  apply Array.ext
  · simp [rowArr, size_madeCells]
  · intro i h1 h2; simp [rowArr, madeCells, Nat.mod_one]
def RefC (n k : Nat) (w : World) (e : Ending) (w' : World) : Prop :=
  ((1125899906842624 < sat (ch n k) → e = .returned (.tuple #[.int .i64 0, .bool false])) ∧ (sat (ch n k) ≤ 1125899906842624 → e = .returned (.tuple #[.int .i64 (sat (ch n k)), .bool true]))) ∧ Below w.heap.size w w'
set_option maxHeartbeats 1000000 in
theorem refChoose_row (n k : Nat) (w : World) (hn : n ≤ 1000) (hk : k + k ≤ n) :
    Calls Tryd.prog 22 #[.int .i64 n, .int .i64 k] w (RefC n k w) := by
  have hmk := run_make_row' (P := Tryd.prog) 22 3 (.int .i64 0) 8 Tryd.underlying22 Tryd.info3 rfl .i64 .i64 (k + 1) (by omega) (by omega)
  have ec : ((k + 1 : Nat) : Int) = (k : Int) + 1 := by omega
  rw [ec, made_row] at hmk
  clear ec
  have hg0 : (rowArr (fun _ => 0) (k + 1))[0]? = some (.int .i64 0) := rowArr_get _ _ _ (by omega)
  go_enter Tryd.func22, Tryd.ntmps22
  go_wp2
  go_loopw [7] (fun i wr => ∃ I : Nat, I ≤ n ∧ i = .int .i64 ((I : Int) + 1) ∧ Hid (IsInts wr w.heap.size 3 (fun t => sat (ch I t)) (k + 1)) ∧ Below w.heap.size w wr) (fun i _ => n + 1 - (intOf i).toNat)
  case atStart =>
    refine ⟨0, by omega, rfl, ?_, (Below.refl _ _).alloc (Nat.le_refl _) _⟩
    rw [rowArr_set]
    have h0 : IsInts (w.alloc (.cells (rowArr (upd (fun _ => 0) 0 1) (k + 1)) 3)) w.heap.size 3 (upd (fun _ => 0) 0 1) (k + 1) := heap_alloc_new w _
    refine h0.congr fun t _ => ?_
    unfold upd
    by_cases e : t = 0
    · subst e; rfl
    · obtain ⟨t', rfl⟩ : ∃ t', t = t' + 1 := ⟨t - 1, by omega⟩
      rw [if_neg e]; rfl
  case round =>
    clear hmk hg0
    obtain ⟨I, hI, rfl, hR, hB⟩ := hrel
    by_cases hlt : I < n
    · have hd : decide ((I : Int) + 1 ≤ (n : Int)) = true := decide_eq_true (by omega)
      have HS : Hid (IsInts wr w.heap.size 3 (midRow I k) (k + 1)) := hR.out.congr fun t ht => (midRow_top I k t (by omega)).symm
      clear hR
      go_wp2
      go_loopw [8] (fun j wx => ∃ J : Nat, J ≤ k ∧ j = .int .i64 J ∧ Hid (IsInts wx w.heap.size 3 (midRow I J) (k + 1)) ∧ Below w.heap.size w wx) (fun j _ => (intOf j).toNat)
      case atStart => exact ⟨k, by omega, rfl, HS, hB⟩
      case round =>
        clear HS hB
        obtain ⟨J, hJ, rfl, hR, hB⟩ := hrel
        by_cases hz : J = 0
        · subst hz
          go_wp2
          go_roundw
          case rel => exact ⟨I + 1, by omega, by go_num, hR.out.congr fun t _ => midRow_down I t, hB⟩
          case measure => simp [intOf]; omega
        · obtain ⟨J, rfl⟩ : ∃ J', J = J' + 1 := ⟨J - 1, by omega⟩
          have c1 := hR.out.cell (J + 1) (by omega)
          have c0 := hR.out.cell J (by omega)
          have f1 := hR.out.free (J + 1)
          rw [midRow_top I (J + 1) (J + 1) (by omega)] at c1
          rw [midRow_top I (J + 1) J (by omega)] at c0
          obtain ⟨x1, x2⟩ := sat_bd (ch I (J + 1))
          obtain ⟨y1, y2⟩ := sat_bd (ch I J)
          have HA := Lib.hid (sat_add (ch I J) (ch I (J + 1)))
          by_cases hgt : 1125899906842625 < sat (ch I (J + 1)) + sat (ch I J)
          · have HV : Hid ((1125899906842625 : Int) = sat (ch (I + 1) (J + 1))) := by
              have := HA.out
              rw [if_neg (by omega)] at this
              exact this.symm
            go_wp2
            go_region
            go_wp2
            go_roundw
            case rel => exact ⟨J, by omega, by go_num, ((hR.out.set (J + 1) _).set (J + 1) _).congr (midRow_twice I J _ _ _ HV.out), Below.drew ((hB.setCell (Nat.le_refl _) _).setCell (Nat.le_refl _) _)⟩
            case measure => simp [intOf]
          · have HV : Hid (sat (ch I (J + 1)) + sat (ch I J) = sat (ch (I + 1) (J + 1))) := by
              have := HA.out
              rw [if_pos (by omega)] at this
              rw [Int.add_comm]; exact this.symm
            go_wp2
            go_region
            go_wp2
            go_roundw
            case rel =>
              exact ⟨J, by omega, by go_num, (hR.out.set (J + 1) _).congr (midRow_step I J _ _ HV.out), Below.drew (hB.setCell (Nat.le_refl _) _)⟩
            case measure => simp [intOf]
    · obtain rfl : I = n := by omega
      have hcell := hR.out.cell k (by omega)
      by_cases hgt : 1125899906842624 < sat (ch I k)
      · go_wp2
        go_ret2
        exact ⟨⟨fun _ => rfl, fun h => absurd h (by omega)⟩, hB⟩
      · go_wp2
        go_ret2
        exact ⟨⟨fun h => absurd h (by omega), fun _ => rfl⟩, hB⟩
set_option maxHeartbeats 1000000 in
theorem refChoose_up (n k : Nat) (w : World) (hn : n ≤ 1000) (hk : k + k < n) :
    Calls Tryd.prog 22 #[.int .i64 n, .int .i64 ((n : Int) - k)] w (RefC n k w) := by
  have hmk := run_make_row' (P := Tryd.prog) 22 3 (.int .i64 0) 8 Tryd.underlying22 Tryd.info3 rfl .i64 .i64 (k + 1) (by omega) (by omega)
  have ec : ((k + 1 : Nat) : Int) = (k : Int) + 1 := by omega
  rw [ec, made_row] at hmk
  clear ec
  have hg0 : (rowArr (fun _ => 0) (k + 1))[0]? = some (.int .i64 0) := rowArr_get _ _ _ (by omega)
  have hd0 : decide ((k : Int) < (n : Int) - k) = true := decide_eq_true (by omega)
  have hsub : (n : Int) - ((n : Int) - k) = k := by omega
  go_enter Tryd.func22, Tryd.ntmps22
  go_wp2
  clear hsub
  go_loopw [7] (fun i wr => ∃ I : Nat, I ≤ n ∧ i = .int .i64 ((I : Int) + 1) ∧ Hid (IsInts wr w.heap.size 3 (fun t => sat (ch I t)) (k + 1)) ∧ Below w.heap.size w wr) (fun i _ => n + 1 - (intOf i).toNat)
  case atStart =>
    refine ⟨0, by omega, rfl, ?_, (Below.refl _ _).alloc (Nat.le_refl _) _⟩
    rw [rowArr_set]
    have h0 : IsInts (w.alloc (.cells (rowArr (upd (fun _ => 0) 0 1) (k + 1)) 3)) w.heap.size 3 (upd (fun _ => 0) 0 1) (k + 1) := heap_alloc_new w _
    refine h0.congr fun t _ => ?_
    unfold upd
    by_cases e : t = 0
    · subst e; rfl
    · obtain ⟨t', rfl⟩ : ∃ t', t = t' + 1 := ⟨t - 1, by omega⟩
      rw [if_neg e]; rfl
  case round =>
    clear hmk hg0
    obtain ⟨I, hI, rfl, hR, hB⟩ := hrel
    by_cases hlt : I < n
    · have hd : decide ((I : Int) + 1 ≤ (n : Int)) = true := decide_eq_true (by omega)
      have HS : Hid (IsInts wr w.heap.size 3 (midRow I k) (k + 1)) := hR.out.congr fun t ht => (midRow_top I k t (by omega)).symm
      clear hR
      go_wp2
      go_loopw [8] (fun j wx => ∃ J : Nat, J ≤ k ∧ j = .int .i64 J ∧ Hid (IsInts wx w.heap.size 3 (midRow I J) (k + 1)) ∧ Below w.heap.size w wx) (fun j _ => (intOf j).toNat)
      case atStart => exact ⟨k, by omega, rfl, HS, hB⟩
      case round =>
        clear HS hB
        obtain ⟨J, hJ, rfl, hR, hB⟩ := hrel
        by_cases hz : J = 0
        · subst hz
          go_wp2
          go_roundw
          case rel => exact ⟨I + 1, by omega, by go_num, hR.out.congr fun t _ => midRow_down I t, hB⟩
          case measure => simp [intOf]; omega
        · obtain ⟨J, rfl⟩ : ∃ J', J = J' + 1 := ⟨J - 1, by omega⟩
          have c1 := hR.out.cell (J + 1) (by omega)
          have c0 := hR.out.cell J (by omega)
          have f1 := hR.out.free (J + 1)
          rw [midRow_top I (J + 1) (J + 1) (by omega)] at c1
          rw [midRow_top I (J + 1) J (by omega)] at c0
          obtain ⟨x1, x2⟩ := sat_bd (ch I (J + 1))
          obtain ⟨y1, y2⟩ := sat_bd (ch I J)
          have HA := Lib.hid (sat_add (ch I J) (ch I (J + 1)))
          by_cases hgt : 1125899906842625 < sat (ch I (J + 1)) + sat (ch I J)
          · have HV : Hid ((1125899906842625 : Int) = sat (ch (I + 1) (J + 1))) := by
              have := HA.out
              rw [if_neg (by omega)] at this
              exact this.symm
            go_wp2
            go_region
            go_wp2
            go_roundw
            case rel =>
              exact ⟨J, by omega, by go_num, ((hR.out.set (J + 1) _).set (J + 1) _).congr (midRow_twice I J _ _ _ HV.out), Below.drew ((hB.setCell (Nat.le_refl _) _).setCell (Nat.le_refl _) _)⟩
            case measure => simp [intOf]
          · have HV : Hid (sat (ch I (J + 1)) + sat (ch I J) = sat (ch (I + 1) (J + 1))) := by
              have := HA.out
              rw [if_pos (by omega)] at this
              rw [Int.add_comm]; exact this.symm
            go_wp2
            go_region
            go_wp2
            go_roundw
            case rel =>
              exact ⟨J, by omega, by go_num, (hR.out.set (J + 1) _).congr (midRow_step I J _ _ HV.out), Below.drew (hB.setCell (Nat.le_refl _) _)⟩
            case measure => simp [intOf]
    · obtain rfl : I = n := by omega
      have hcell := hR.out.cell k (by omega)
      by_cases hgt : 1125899906842624 < sat (ch I k)
      · go_wp2
        go_ret2
        exact ⟨⟨fun _ => rfl, fun h => absurd h (by omega)⟩, hB⟩
      · go_wp2
        go_ret2
        exact ⟨⟨fun h => absurd h (by omega), fun _ => rfl⟩, hB⟩
theorem refChoose_ok (N K : Nat) (w : World) (h1 : K ≤ N) (h2 : N ≤ 1000) (hc : ch N K ≤ 1125899906842624) :
    Calls Tryd.prog 22 #[.int .i64 N, .int .i64 K] w fun e w' => e = .returned (.tuple #[.int .i64 (ch N K : Nat), .bool true]) ∧ Below w.heap.size w w' := by
  by_cases h : K + K ≤ N
  · refine (refChoose_row N K w h2 h).mono fun e w' hr => ?_
    have e1 : sat (ch N K) = (ch N K : Nat) := sat_small (by omega)
    exact ⟨by rw [hr.1.2 (by rw [e1]; omega), e1], hr.2⟩
  · obtain ⟨k, hk⟩ : ∃ k, N = K + k := ⟨N - K, by omega⟩
    have es : ch N K = ch N k := by rw [ch_symm N K h1, hk, Nat.add_sub_cancel_left]
    have ea : (K : Int) = (N : Int) - k := by omega
    rw [es] at hc
    rw [ea, es]
    refine (refChoose_up N k w h2 (by omega)).mono fun e w' hr => ?_
    have e1 : sat (ch N k) = (ch N k : Nat) := sat_small (by omega)
    exact ⟨by rw [hr.1.2 (by rw [e1]; omega), e1], hr.2⟩
theorem sat_over {x : Nat} (h : 1125899906842624 < x) : 1125899906842624 < sat x := by unfold sat; split <;> omega
theorem refChoose_over (N K : Nat) (w : World) (h1 : K ≤ N) (h2 : N ≤ 1000) (hc : 1125899906842624 < ch N K) :
    Calls Tryd.prog 22 #[.int .i64 N, .int .i64 K] w fun e w' => e = .returned (.tuple #[.int .i64 0, .bool false]) ∧ Below w.heap.size w w' := by
  by_cases h : K + K ≤ N
  · exact (refChoose_row N K w h2 h).mono fun e w' hr => ⟨hr.1.1 (sat_over hc), hr.2⟩
  · obtain ⟨k, hk⟩ : ∃ k, N = K + k := ⟨N - K, by omega⟩
    have es : ch N K = ch N k := by rw [ch_symm N K h1, hk, Nat.add_sub_cancel_left]
    have ea : (K : Int) = (N : Int) - k := by omega
    rw [es] at hc
    rw [ea]
    exact (refChoose_up N k w h2 (by omega)).mono fun e w' hr => ⟨hr.1.1 (sat_over hc), hr.2⟩
end Go.Proofs.YtcgmbgamhlfpcaaDoor
