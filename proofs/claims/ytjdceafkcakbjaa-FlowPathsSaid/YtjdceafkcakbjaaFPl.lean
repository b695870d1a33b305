/- What FlowPaths calls: Contains, and ContainsFunc with its closure. -/
import Derived.Test.YtjdceafkcakbjaaFPth
import Derived.Test.YtjdceafkcakbjaaFBe
namespace Go.Proofs.Ytjdceafkcakbjaa
open Go.RowKit
theorem index_no (g I c v : Nat) (L : List Nat) (w : World) (h : LAt w g L) (hI : I ≤ L.length) (hl : L.length ≤ 1000) (hno : ∀ k, k < I → L.getD k 0 ≠ v) :
    Calls Try.prog 56 #[.slice (some ⟨g, 0, none⟩) I c, .int .i64 v] w fun e w' => e = .returned (.int .i64 (-1)) ∧ w = w' := by
  have HNO := Lib.hid hno; clear hno
  have HL := Lib.hid h; clear h
  go_enter Try.func56, Try.ntmps56
  go_wp2_with fail
  go_loop [5, 8] (fun _ i => ∃ K : Nat, K ≤ I ∧ i = .int .i64 K) (fun _ i => I - (intOf i).toNat)
  case atStart => exact ⟨0, by omega, rfl⟩
  case round =>
    obtain ⟨K, hK, rfl⟩ := hrel
    by_cases hlt : K < I
    · have x0 := HL.out.cellD (k := K) (by omega)
      have hne := HNO.out K hlt
      have hwrap : IntKind.i64.wrap ((K : Int) + 1) = (K : Int) + 1 := IntWalk.i64_in _ (by omega)
      generalize L.getD K 0 = x at *
      have q1 : ((v : Int) == (x : Int)) = false := beq_false_of_ne (by omega)
      have HNE := Lib.hid hne
      clear hne
      go_wp2_with fail
      go_round
      case rel => exact ⟨K + 1, by omega, by go_num⟩
      case measure => simp [intOf]; omega
    · go_wp2_with fail
      go_ret
      exact ⟨rfl, rfl⟩
theorem contains_no (g I c v : Nat) (L : List Nat) (w : World) (h : LAt w g L) (hI : I ≤ L.length) (hl : L.length ≤ 1000) (hno : ∀ k, k < I → L.getD k 0 ≠ v) :
    Calls Try.prog 27 #[.slice (some ⟨g, 0, none⟩) I c, .int .i64 v] w fun e w' => e = .returned (.bool false) ∧ w = w' := by
  have hidx := Lib.hid (index_no g I c v L w h hI hl hno)
  clear h hno
  go_enter Try.func27, Try.ntmps27
  go_wp2_with fail
  refine hidx.out.mono ?_; rintro e w2 ⟨rfl, rfl⟩
  go_wp2_with fail
  go_ret
  exact ⟨rfl, rfl⟩
theorem cl29_no (x : Int) (w : World) (h : x ≤ 0) : Calls Try.prog 29 #[.int .i64 x] w fun e w' => e = .returned (.bool false) ∧ w = w' := by
  have q1 : decide (0 < x) = false := decide_eq_false (by omega)
  clear h
  go_enter Try.func29, Try.ntmps29
  go_wp2_with fail
  go_ret
  exact ⟨rfl, rfl⟩
theorem index_pos (g n : Nat) (F : Nat → Int) (w : World) (h : w.rowIs g 3 n (ivals F)) (hn : n ≤ 1000000) (hF : ∀ k, k < n → F k ≤ 0) :
    Calls Try.prog 57 #[.slice (some ⟨g, 0, none⟩) n n, .func (Fn.func 29) #[] #[]] w fun e w' => e = .returned (.int .i64 (-1)) ∧ w = w' := by
  have HF := Lib.hid hF; clear hF
  have HR := Lib.hid h; clear h
  go_enter Try.func57, Try.ntmps57
  go_wp2_with fail
  go_loop [5, 8] (fun _ i => ∃ K : Nat, K ≤ n ∧ i = .int .i64 K) (fun _ i => n - (intOf i).toNat)
  case atStart => exact ⟨0, by omega, rfl⟩
  case round =>
    obtain ⟨K, hK, rfl⟩ := hrel
    by_cases hlt : K < n
    · have x0 := HR.out.cell hlt
      replace x0 : w.cell? ⟨g, K, none⟩ = some (.int .i64 (F K)) := x0
      have hle := Lib.hid (HF.out K hlt)
      have hwrap : IntKind.i64.wrap ((K : Int) + 1) = (K : Int) + 1 := IntWalk.i64_in _ (by omega)
      generalize F K = x at *
      go_wp2_with fail
      refine (cl29_no x _ hle.out).mono ?_; rintro e w2 ⟨rfl, rfl⟩
      go_wp2_with fail
      go_round
      case rel => exact ⟨K + 1, by omega, by go_num⟩
      case measure => simp [intOf]; omega
    · go_wp2_with fail
      go_ret
      exact ⟨rfl, rfl⟩
theorem contains_pos (g n : Nat) (F : Nat → Int) (w : World) (h : w.rowIs g 3 n (ivals F)) (hn : n ≤ 1000000) (hF : ∀ k, k < n → F k ≤ 0) :
    Calls Try.prog 28 #[.slice (some ⟨g, 0, none⟩) n n, .func (Fn.func 29) #[] #[]] w fun e w' => e = .returned (.bool false) ∧ w = w' := by
  have hidx := Lib.hid (index_pos g n F w h hn hF)
  clear h hF
  go_enter Try.func28, Try.ntmps28
  go_wp2_with fail
  refine hidx.out.mono ?_; rintro e w2 ⟨rfl, rfl⟩
  go_wp2_with fail
  go_ret
  exact ⟨rfl, rfl⟩
end Go.Proofs.Ytjdceafkcakbjaa
