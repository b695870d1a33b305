/- The reference's has, IsMatching. -/
import Derived.Test.YtmafnncpdccfdaaMMtc
import Derived.Test.YtmafnncpdccfdaaMDef
import Derived.Deep.RegionHeld3
namespace Go.Proofs.Ytmafnncpdccfdaa
open Go.RowKit
theorem eqg47 : Try.prog.eqGuardType Try.prog.depth 47 = false := by kernel_rfl
theorem size3 (w : World) : (sizeOf 3).run Try.prog w = .ok 1 w := by
  have h : Try.t3.size = 1 := by kernel_rfl
  simp [sizeOf, h, go_sem]
theorem eq_pair (x1 x2 y1 y2 : Int) (w : World) : (Op.equalIn 10000 47 (.agg #[.int .i64 x1, .int .i64 x2]) (.agg #[.int .i64 y1, .int .i64 y2])).run Try.prog w = .ok (x1 == y1 && x2 == y2) w := by
  have hl : List.range' 0 2 = [0, 1] := rfl
  have p0 : ∀ a b : Int, (part 3 #[.int .i64 a, .int .i64 b] 0).run Try.prog w = .ok (.int .i64 a) w := fun a b => by simp [part, isAgg, run_underlying Try.underlying3]
  have p1 : ∀ a b : Int, (part 3 #[.int .i64 a, .int .i64 b] 1).run Try.prog w = .ok (.int .i64 b) w := fun a b => by simp [part, isAgg, run_underlying Try.underlying3]
  have pe : ∀ a b : Int, (Op.equalIn 9999 3 (.int .i64 a) (.int .i64 b)).run Try.prog w = .ok (a == b) w := fun a b => run_equalIn_int w 9998 3 .i64 .i64 a b Try.underlying3
  rw [show (10000 : Nat) = 9999 + 1 from rfl, Op.equalIn]
  simp only [Sem.run_bind, run_underlying Try.underlying47, Result.andThen_ok, size3, Std.Legacy.Range.forIn_eq_forIn_range', Std.Legacy.Range.size, Nat.sub_zero, Nat.add_sub_cancel, Nat.div_one, hl]
  cases h1 : (x1 == y1) <;> cases h2 : (x2 == y2) <;> simp [p0, p1, pe, h1, h2]
theorem rhas_at (A : Option Addr) (k c J : Nat) (E : Nat → Int × Int) (x1 x2 : Int) (v : Bool) (w : World) (h : Prs w A k E) (hk : k ≤ 2000) (hJ : J ≤ k) (hz : ∀ i, i < J → E i ≠ (x1, x2)) (hv : (J < k ∧ E J = (x1, x2) ∧ v = true) ∨ (J = k ∧ v = false)) :
    Calls Try.prog 39 #[.slice A k c, .agg #[.int .i64 x1, .int .i64 x2]] w fun e w' => e = .returned (.bool v) ∧ Below w.heap.size w w' := by
  have HH := Lib.hid h; clear h
  have HZ := Lib.hid hz; clear hz
  have HV := Lib.hid hv; clear hv
  have b0 := below_new w (.cells #[.int .i64 x1, .int .i64 x2] 47)
  have eP : (w.alloc (.cells #[.int .i64 x1, .int .i64 x2] 47)).heap[w.heap.size]? = some (.cells #[.int .i64 x1, .int .i64 x2] 47 (0, 0)) := heap_alloc_new w _
  have u0 := cell_of_row _ _ 0 _ _ _ eP
  have u1 := cell_of_row _ _ 1 _ _ _ eP
  clear eP
  go_enter Try.func39, Try.ntmps39
  go_upto_region 1 with fail
  generalize w.alloc (.cells #[.int .i64 x1, .int .i64 x2] 47) = W at *
  go_wp2_with fail
  have hpl : w.heap.size < W.heap.size := World.block_lt_of_cell? W _ u0
  go_loopw [5] (fun i wr => ∃ K : Nat, K ≤ J ∧ i = .int .i64 K ∧ Below W.heap.size W wr) (fun i _ => J - (intOf i).toNat)
  case atStart => exact ⟨0, Nat.zero_le _, rfl, Below.refl _ _⟩
  case round =>
    obtain ⟨K, hK, rfl, hB⟩ := hrel
    by_cases hlt : K < k
    · have BW := below_next b0 hB
      obtain ⟨b, off, rfl, hbl, hcz⟩ := (HH.out.below BW) (by omega)
      obtain ⟨e0, e1⟩ := hcz K hlt
      clear hcz
      have v0 := (hB.cell (p := ⟨w.heap.size, 0, none⟩) hpl).trans u0
      have v1 := (hB.cell (p := ⟨w.heap.size, 1, none⟩) hpl).trans u1
      have hg47 := eqg47
      have he47 := Lib.hid fun w => eq_pair (E K).1 (E K).2 x1 x2 w
      have hwrap : IntKind.i64.wrap ((K : Int) + 1) = (K : Int) + 1 := IntWalk.i64_in _ (by omega)
      cases hq : ((E K).1 == x1 && (E K).2 == x2) with
      | true =>
        have e : E K = (x1, x2) := by
          simp at hq
          exact Prod.ext hq.1 hq.2
        have hv1 : v = true := by
          rcases HV.out with ⟨h1, h2, h3⟩ | ⟨h1, h2⟩
          · exact h3
          · exact absurd e (HZ.out K (by omega))
        subst hv1
        clear e
        have he := he47.out
        rw [hq] at he
        clear hq he47
        go_upto_region 4 with fail
        go_quiet (fail)
        go_wp2_with fail
        go_ret
        exact ⟨rfl, below_drewN BW _⟩
      | false =>
        have hKJ : K < J := by
          rcases HV.out with ⟨h1, h2, h3⟩ | ⟨h1, h2⟩
          · by_cases e : K = J
            · subst e; rw [h2] at hq; simp at hq
            · omega
          · omega
        have he := he47.out
        rw [hq] at he
        clear hq he47
        go_upto_region 4 with fail
        go_quiet (fail)
        go_wp2_with fail
        go_roundw
        case rel => exact ⟨K + 1, hKJ, by go_num, below_drewN hB _⟩
        case measure => simp [intOf]; omega
    · have hv1 : v = false := by
        rcases HV.out with ⟨h1, h2, h3⟩ | ⟨h1, h2⟩
        · omega
        · exact h2
      subst hv1
      have BW := below_next b0 hB
      go_wp2_with fail
      go_ret
      exact ⟨rfl, BW⟩
theorem rhas_any (A : Option Addr) (k c : Nat) (E : Nat → Int × Int) (x1 x2 : Int) (v : Bool) (w : World) (h : Prs w A k E) (hk : k ≤ 2000) (hv : v = true ↔ ∃ i, i < k ∧ E i = (x1, x2)) :
    Calls Try.prog 39 #[.slice A k c, .agg #[.int .i64 x1, .int .i64 x2]] w fun e w' => e = .returned (.bool v) ∧ Below w.heap.size w w' := by
  by_cases hc : ∀ i, i < k → E i ≠ (x1, x2)
  · refine rhas_at A k c k E x1 x2 v w h hk (Nat.le_refl _) hc (.inr ⟨rfl, ?_⟩)
    cases v with
    | false => rfl
    | true => obtain ⟨i, h1, h2⟩ := hv.1 rfl; exact absurd h2 (hc i h1)
  · obtain ⟨J, hJ, hnJ, hbef⟩ := first_not hc
    have e : E J = (x1, x2) := Classical.byContradiction hnJ
    exact rhas_at A k c J E x1 x2 v w h hk (by omega) hbef (.inl ⟨hJ, e, hv.2 ⟨J, hJ, e⟩⟩)
end Go.Proofs.Ytmafnncpdccfdaa
