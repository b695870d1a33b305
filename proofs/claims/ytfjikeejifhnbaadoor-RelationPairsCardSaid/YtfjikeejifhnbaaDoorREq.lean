/- slices.Equal at numbers and at pairs; the examples of the chapter hold. -/
import Derived.Test.YtfjikeejifhnbaaDoorRCyc2
import Derived.ChangeKeysEq
namespace Go.Proofs.YtfjikeejifhnbaaDoor
open Go.RowKit
theorem equal_ints (A B : Option Addr) (n c d : Nat) (z : Nat → Int) (w : World) (ha : Ints w A n z) (hb : Ints w B n z) (hn : n ≤ 1000000) :
    Calls Tryd.prog 33 #[.slice A n c, .slice B n d] w fun e w' => e = .returned (.bool true) ∧ Below w.heap.size w w' := by
  have HA := Lib.hid ha; clear ha
  have HB := Lib.hid hb; clear hb
  have hne : ((n : Int) != (n : Int)) = false := by simp
  go_enter Tryd.func33, Tryd.ntmps33
  go_wp2_with fail
  go_loopw [5, 13] (fun _ i wr => ∃ K : Nat, K ≤ n ∧ i = .int .i64 K ∧ Below w.heap.size w wr) (fun _ i _ => n - (intOf i).toNat)
  case atStart => exact ⟨0, by omega, rfl, Below.refl _ _⟩
  case round =>
    obtain ⟨K, hK, rfl, hW⟩ := hrel
    by_cases hlt : K < n
    · obtain ⟨b1, o1, rfl, _, h1⟩ := HA.out.below hW (by omega)
      obtain ⟨b2, o2, rfl, _, h2⟩ := HB.out.below hW (by omega)
      have x1 := h1 K hlt
      have x2 := h2 K hlt
      have hz : (z K != z K) = false := by simp
      clear h1 h2
      go_wp2_with fail
      go_quiet (fail)
      go_wp2_with fail
      go_roundw
      case rel => exact ⟨K + 1, by omega, by go_num, below_drewN hW _⟩
      case measure => simp [intOf]; omega
    · go_wp2_with fail
      go_ret
      exact ⟨rfl, hW⟩
theorem neq_pair (a b c d : Int) (w : World) : (binOp .neq 38 (.agg #[.int .i64 a, .int .i64 b]) (.agg #[.int .i64 c, .int .i64 d])).run Tryd.prog w = .ok (.bool (!(a == c && b == d))) w := by
  obtain ⟨i, hi, hz, hs, hb⟩ := info_parts Tryd.info3
  have hc : Tryd.prog.cellsOf 3 = 1 := by kernel_rfl
  have hk : Tryd.prog.plainKey 3 = true := by kernel_rfl
  have he : ∀ x y : Int, (Op.equalIn 9999 3 (.int .i64 x) (.int .i64 y)).run Tryd.prog w = .ok (x == y) w := fun x y => run_equalIn_int w 9998 3 .i64 .i64 x y Tryd.underlying3
  rw [run_neq_struct, run_equalIn_array w 9999 _ _ Tryd.underlying38 hi]
  simp only [List.range, List.range.loop, Op.eqItems, Sem.run_bind, hc]
  rw [run_part_plain w hk (v := .int .i64 a) (by rfl)]
  simp only [Result.andThen_ok]
  rw [run_part_plain w hk (v := .int .i64 c) (by rfl)]
  simp only [Result.andThen_ok, he]
  cases a == c
  · simp
  · simp only [Bool.not_true, Bool.false_eq_true, if_false, Sem.run_bind]
    rw [run_part_plain w hk (v := .int .i64 b) (by rfl)]
    simp only [Result.andThen_ok]
    rw [run_part_plain w hk (v := .int .i64 d) (by rfl)]
    simp only [Result.andThen_ok, he]
    cases b == d <;> simp
theorem equal_prs (A B : Option Addr) (n c d : Nat) (z : Nat → Int × Int) (w : World) (ha : Prs w A n z) (hb : Prs w B n z) (hn : n ≤ 1000000) :
    Calls Tryd.prog 17 #[.slice A n c, .slice B n d] w fun e w' => e = .returned (.bool true) ∧ Below w.heap.size w w' := by
  have HA := Lib.hid ha; clear ha
  have HB := Lib.hid hb; clear hb
  have hne : ((n : Int) != (n : Int)) = false := by simp
  go_enter Tryd.func17, Tryd.ntmps17
  go_wp2_with fail
  go_loopw [5, 13] (fun _ i wr => ∃ K : Nat, K ≤ n ∧ i = .int .i64 K ∧ Below w.heap.size w wr) (fun _ i _ => n - (intOf i).toNat)
  case atStart => exact ⟨0, by omega, rfl, Below.refl _ _⟩
  case round =>
    obtain ⟨K, hK, rfl, hW⟩ := hrel
    by_cases hlt : K < n
    · obtain ⟨b1, o1, rfl, _, h1⟩ := HA.out.below hW (by omega)
      obtain ⟨b2, o2, rfl, _, h2⟩ := HB.out.below hW (by omega)
      obtain ⟨x1, y1⟩ := h1 K hlt
      obtain ⟨x2, y2⟩ := h2 K hlt
      clear h1 h2
      generalize (z K).1 = p at *
      generalize (z K).2 = q at *
      have hq : ∀ w, (binOp .neq 38 (.agg #[.int .i64 p, .int .i64 q]) (.agg #[.int .i64 p, .int .i64 q])).run Tryd.prog w = .ok (.bool false) w := fun w => by rw [neq_pair]; simp
      go_wp2_with fail
      go_quiet (fail)
      go_wp2_with fail
      go_roundw
      case rel => exact ⟨K + 1, by omega, by go_num, below_drewN hW _⟩
      case measure => simp [intOf]; omega
    · go_wp2_with fail
      go_ret
      exact ⟨rfl, hW⟩
end Go.Proofs.YtfjikeejifhnbaaDoor
