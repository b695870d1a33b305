/- The reference's Acyclic and Reduction of a table. -/
import Derived.Test.YtfjikeejifhnbaaDoorRTcl
namespace Go.Proofs.YtfjikeejifhnbaaDoor
open Go.RowKit
set_option maxRecDepth 100000 in
set_option maxHeartbeats 4000000 in
theorem refAcyclic_any (v0 : Value) (n : Nat) (B0 C0 : Nat → Nat) (T : Nat → Nat → Bool) (J : Nat) (r : Bool) (w : World) (h : BTab w 0 v0 n n B0 C0 T) (hn : n ≤ 512) (hJ : J ≤ n) (hz : ∀ i, i < J → clo n T i i = false) (hr : (r = true ∧ J = n) ∨ (r = false ∧ J < n ∧ clo n T J J = true)) :
    Calls Tryd.prog 27 #[v0] w fun e w' => e = .returned (.bool r) ∧ Below w.heap.size w w' := by
  have HH := Lib.hid h; clear h
  have HZ := Lib.hid hz; clear hz
  have HR := Lib.hid hr; clear hr
  go_enter Tryd.func27, Tryd.ntmps27
  go_wp2_with fail
  refine (refClosure_any v0 n B0 C0 T w HH.out hn).mono ?_; rintro e w1 ⟨v, B, C, rfl, hBT, b1⟩
  obtain ⟨A, c, rfl⟩ := hBT.form
  go_wp2_with fail
  go_loopw [4] (fun i wr => ∃ K : Nat, K ≤ J ∧ i = .int .i64 K ∧ Below w1.heap.size w1 wr) (fun i _ => n - (intOf i).toNat)
  case atStart => exact ⟨0, by omega, rfl, Below.refl _ _⟩
  case round =>
    obtain ⟨K, hK, rfl, hB⟩ := hrel
    by_cases hlt : K < n
    · have HB := hBT.below hB
      obtain ⟨gT, rfl, _, y0⟩ := HB.cell hlt
      have y1 := (HB.r K hlt).cell hlt
      clear HB
      by_cases hKJ : K < J
      · rw [HZ.out K hKJ] at y1
        go_wp2_with fail
        go_roundw
        case rel => exact ⟨K + 1, by omega, by go_num, hB⟩
        case measure => simp [intOf]; omega
      · obtain rfl : K = J := by omega
        rcases HR.out with ⟨_, h2⟩ | ⟨rfl, _, h3⟩
        · omega
        · rw [h3] at y1
          clear h3
          go_wp2_with fail
          go_ret
          exact ⟨rfl, below_next b1 hB⟩
    · rcases HR.out with ⟨rfl, h2⟩ | ⟨_, h2, _⟩
      · have HJ := Lib.hid h2; clear h2
        go_wp2_with fail
        go_ret
        exact ⟨rfl, below_next b1 hB⟩
      · omega
theorem refAcyclic_yes (v0 : Value) (n : Nat) (B0 C0 : Nat → Nat) (T : Nat → Nat → Bool) (w : World) (h : BTab w 0 v0 n n B0 C0 T) (hn : n ≤ 512) (ha : Acy n T) :
    Calls Tryd.prog 27 #[v0] w fun e w' => e = .returned (.bool true) ∧ Below w.heap.size w w' :=
  refAcyclic_any v0 n B0 C0 T n true w h hn (Nat.le_refl _) ha (Or.inl ⟨rfl, rfl⟩)
theorem refAcyclic_no (v0 : Value) (n : Nat) (B0 C0 : Nat → Nat) (T : Nat → Nat → Bool) (w : World) (h : BTab w 0 v0 n n B0 C0 T) (hn : n ≤ 512) {s : Nat} (hs : firstCyc n T = some s) :
    Calls Tryd.prog 27 #[v0] w fun e w' => e = .returned (.bool false) ∧ Below w.heap.size w w' := by
  obtain ⟨h1, h2, h3⟩ := firstCyc_some.1 hs
  exact refAcyclic_any v0 n B0 C0 T s false w h hn (by omega) h3 (Or.inr ⟨rfl, h1, h2⟩)
set_option maxRecDepth 100000 in
set_option maxHeartbeats 4000000 in
theorem refReduction_any (v0 : Value) (n : Nat) (B0 C0 : Nat → Nat) (T : Nat → Nat → Bool) (w : World) (h : BTab w 0 v0 n n B0 C0 T) (hn : n ≤ 512) :
    Calls Tryd.prog 28 #[v0] w (TabOk w n (red n T)) := by
  obtain ⟨A, c, rfl⟩ := h.form
  have HH := Lib.hid h; clear h
  have hmk := make_bools n (by omega)
  go_enter Tryd.func28, Tryd.ntmps28
  go_wp2_with fail
  refine (refClosure_any _ n B0 C0 T w HH.out hn).mono ?_; rintro e w1 ⟨v1, B1, C1, rfl, hC, b1⟩
  replace hC := hC.mono (Nat.zero_le _)
  go_wp2_with fail
  refine (refCompose_any _ _ n B1 C1 B1 C1 _ _ w1 hC hC hn).mono ?_; rintro e w2 ⟨v2, B2, C2, rfl, hL, b2⟩
  replace hL := hL.mono (Nat.zero_le _)
  have B0' := below_next b1 b2
  obtain ⟨A2, c2, rfl⟩ := hL.form
  have H2 := Lib.hid hL
  have hH2 : Hid (BTab w2 0 (.slice A n c) n n B0 C0 T) := HH.out.below B0'
  have hb2 : w.heap.size ≤ w2.heap.size := B0'.size
  clear hC hL HH b1 b2
  go_wp2_with fail
  go_loopw [5, 6, 7, 8] (fun x i _ _ wr => ∃ (K : Nat) (v : Value) (B C : Nat → Nat), v = x ∧ i = .int .i64 K ∧ K ≤ n ∧ BTab wr w2.heap.size v K n B C (red n T) ∧ Below w2.heap.size w2 wr) (fun _ i _ _ _ => n - (intOf i).toNat)
  case atStart => exact ⟨0, _, fun _ => 0, fun _ => 0, rfl, rfl, by omega, ⟨World.ownsRow_nil _ _ _ _, fun i hi => absurd hi (Nat.not_lt_zero _), fun i _ hi => absurd hi (Nat.not_lt_zero _)⟩, Below.refl _ _⟩
  case round =>
    obtain ⟨K, v, B, C, rfl, rfl, hK, hBT, hB⟩ := hrel
    by_cases hlt : K < n
    · have hbw : w2.heap.size ≤ wr.heap.size := hB.size
      have bA : Below wr.heap.size wr (wr.alloc (.cells (madeCells #[.bool false] n) 4)) := (Below.refl _ _).alloc (Nat.le_refl _) _
      have hrow := (brow_made wr w2.heap.size n hbw (by omega)).congr (h := fun j => if j < 0 then red n T K j else false) (fun j _ => by rw [if_neg (Nat.not_lt_zero _)])
      have hBA := hBT.below bA
      have BA := below_next hB bA
      have hfresh : Hid (∀ i, i < K → B i ≠ wr.heap.size) := fun i hi e => by have := (hBT.r i hi).lt.2; omega
      go_wp2_with fail
      clear hBT hB bA
      generalize wr.heap.size = g at *
      generalize wr.alloc (.cells (madeCells #[.bool false] n) 4) = W1 at *
      go_loopw [8] (fun j u => ∃ D : Nat, D ≤ n ∧ j = .int .i64 D ∧ BTab u w2.heap.size v K n B C (red n T) ∧ BRow u w2.heap.size g n n (fun x => if x < D then red n T K x else false) ∧ Below w2.heap.size w2 u) (fun j _ => n - (intOf j).toNat)
      case atStart => exact ⟨0, by omega, rfl, hBA, hrow, BA⟩
      case round =>
        clear hBA hrow BA
        obtain ⟨D, hD, rfl, hBT, hrow, hB⟩ := hrel
        by_cases hlt2 : D < n
        · have HB := hH2.out.below hB
          obtain ⟨gT, rfl, _, y0⟩ := HB.cell hlt
          have y1 := (HB.r K hlt).cell hlt2
          have HL := H2.out.below hB
          obtain ⟨gL, rfl, _, x0⟩ := HL.cell hlt
          have x1 := (HL.r K hlt).cell hlt2
          have z0 := hrow.cell hlt2
          have z1 := hrow.frozen D
          have hq : (T K D && !comp n (clo n T) (clo n T) K D) = red n T K D := by unfold red; rw [comp_clo hlt hlt2]
          have HQ := Lib.hid hq
          clear HB HL hq
          generalize comp n (clo n T) (clo n T) K D = y2 at *
          by_cases hT : T K D = true
          · rw [hT] at y1
            have hq3 : (!y2) = red n T K D := by have := HQ.out; rw [hT] at this; simpa using this
            have hQ2 := Lib.hid hq3
            clear HQ hT hq3
            go_wp2_with fail
            go_roundw
            case rel =>
              refine ⟨D + 1, by omega, by go_num, hBT.far hrow hfresh.out _, ?_, hB.setCell (p := ⟨g, D, none⟩) hbw _⟩
              refine (hrow.set D _).congr (fun x _ => ?_)
              by_cases hx : x = D
              · rw [if_pos hx, if_pos (by omega), hx]; exact hQ2.out
              · rw [if_neg hx]
                by_cases hx2 : x < D
                · rw [if_pos hx2, if_pos (by omega)]
                · rw [if_neg hx2, if_neg (by omega)]
            case measure => simp [intOf]; omega
          · have hT2 : T K D = false := by simpa using hT
            rw [hT2] at y1
            have hq3 : false = red n T K D := by have := HQ.out; rw [hT2] at this; simpa using this
            have hQ2 := Lib.hid hq3
            clear HQ hT hT2 hq3
            go_wp2_with fail
            go_roundw
            case rel =>
              refine ⟨D + 1, by omega, by go_num, hBT.far hrow hfresh.out _, ?_, hB.setCell (p := ⟨g, D, none⟩) hbw _⟩
              refine (hrow.set D _).congr (fun x _ => ?_)
              by_cases hx : x = D
              · rw [if_pos hx, if_pos (by omega), hx]; exact hQ2.out
              · rw [if_neg hx]
                by_cases hx2 : x < D
                · rw [if_pos hx2, if_pos (by omega)]
                · rw [if_neg hx2, if_neg (by omega)]
            case measure => simp [intOf]; omega
        · obtain rfl : D = n := by omega
          have hbase : w2.heap.size ≤ wr.heap.size := hB.size
          go_wp2_with (at_builtin; refine append_brow rfl (.tmp 49) (.tmp 51) rfl w2.heap.size v K D g D B C (red D T) _ wr rfl hBT hrow rfl (by omega) hbase hfresh.out ?_)
          intro g' cap w5 hBT5 hg5
          have bP : Below wr.heap.size wr (wr.alloc (.cells #[.slice (some ⟨g, 0, none⟩) D D] 57)) := (Below.refl _ _).alloc (Nat.le_refl _) _
          have hownA := own_below hBT.o bP
          have B5 := grown_below2 (below_next hB bP) hownA (by omega) hg5
          go_wp2_with fail
          go_roundw
          case rel =>
            refine ⟨K + 1, _, _, _, rfl, by go_num, by omega, hBT5.congr (fun i hi j hj => ?_), B5⟩
            by_cases e : i = K
            · rw [if_pos e, e]; simp [hj]
            · rw [if_neg e]
          case measure => simp [intOf]; omega
    · obtain rfl : K = n := by omega
      go_wp2_with fail
      go_ret
      exact ⟨v, B, C, rfl, hBT.mono hb2, below_next B0' hB⟩
end Go.Proofs.YtfjikeejifhnbaaDoor
