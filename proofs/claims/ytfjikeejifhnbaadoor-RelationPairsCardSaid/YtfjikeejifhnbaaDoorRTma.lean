/- The reference's Make: the relation of a list of pairs. -/
import Derived.Test.YtfjikeejifhnbaaDoorRFrom
namespace Go.Proofs.YtfjikeejifhnbaaDoor
open Go.RowKit
theorem refMake_size (N : Int) (v : Value) (w : World) (hN : N < 0 ∨ 512 < N) :
    Calls Tryd.prog 12 #[.int .i64 N, v] w fun e w' => e = .returned (.tuple #[.agg #[.slice none 0 0], .bool false]) ∧ Below w.heap.size w w' := by
  have b0 : Below w.heap.size w (w.alloc (.cells #[.slice none 0 0] 24)) := (Below.refl _ _).alloc (Nat.le_refl _) _
  have r0 := relAt_new w none 0 0
  have f0 := r0.free 0
  have c0 := r0.c0
  by_cases h : N < 0
  · have d1 : decide (N < 0) = true := decide_eq_true h
    clear hN
    go_enter Tryd.func12, Tryd.ntmps12
    go_wp2_with fail
    refine bodyPost_ret (v := .tuple #[.agg #[.slice none 0 0], .bool false]) (by simp [results, Tryd.results12, go_sem, c0]) rfl ?_
    exact ⟨rfl, b0⟩
  · have d1 : decide (N < 0) = false := decide_eq_false h
    have d2 : decide (512 < N) = true := decide_eq_true (by omega)
    clear hN
    go_enter Tryd.func12, Tryd.ntmps12
    go_wp2_with fail
    refine bodyPost_ret (v := .tuple #[.agg #[.slice none 0 0], .bool false]) (by simp [results, Tryd.results12, go_sem, c0]) rfl ?_
    exact ⟨rfl, b0⟩
theorem below_one (w : World) (o : Obj) : Below w.heap.size w (w.alloc o) := (Below.refl _ _).alloc (Nat.le_refl _) _
def RMEnd (w : World) (n m : Nat) (z : Nat → Int × Int) (v : Bool) (e : Ending) (w' : World) : Prop :=
  (v = true ∧ ∃ A c R, e = .returned (.tuple #[.agg #[.slice A n c], .bool true]) ∧ Rel w' A n R ∧ VRel n R ∧ (∀ i, i < n → ∀ j, j < n → mat R i j = TwoOf z m i j) ∧ Below w.heap.size w w') ∨
  (v = false ∧ e = .returned (.tuple #[.agg #[.slice none 0 0], .bool false]) ∧ Below w.heap.size w w')
theorem twoOf_succ {z : Nat → Int × Int} {K i j : Nat} (h1 : (z K).1 = (i : Int)) (h2 : (z K).2 = (j : Int)) (a x : Nat) : (if a = i ∧ x = j then true else TwoOf z K a x) = TwoOf z (K + 1) a x := by
  apply bool_ext
  rw [TwoOf_iff]
  by_cases e : a = i ∧ x = j
  · rw [if_pos e]
    exact ⟨fun _ => ⟨K, by omega, by rw [h1, e.1], by rw [h2, e.2]⟩, fun _ => rfl⟩
  · rw [if_neg e, TwoOf_iff]
    constructor
    · rintro ⟨k, hk, h3, h4⟩; exact ⟨k, by omega, h3, h4⟩
    · rintro ⟨k, hk, h3, h4⟩
      by_cases ek : k = K
      · subst ek
        exact absurd ⟨by omega, by omega⟩ e
      · exact ⟨k, by omega, h3, h4⟩
set_option maxRecDepth 100000 in
set_option maxHeartbeats 8000000 in
theorem refMake_any (n : Nat) (A : Option Addr) (m c : Nat) (z : Nat → Int × Int) (J : Nat) (v : Bool) (w : World) (hn : n ≤ 512) (h : Prs w A m z) (hm : m ≤ 1000000) (hJ : J ≤ m)
    (hz : ∀ k, k < J → 0 ≤ (z k).1 ∧ (z k).1 < n ∧ 0 ≤ (z k).2 ∧ (z k).2 < n) (hv : (v = true ∧ J = m) ∨ (v = false ∧ J < m ∧ ¬ (0 ≤ (z J).1 ∧ (z J).1 < n ∧ 0 ≤ (z J).2 ∧ (z J).2 < n))) :
    Calls Tryd.prog 12 #[.int .i64 n, .slice A m c] w (RMEnd w n m z v) := by
  have HP := Lib.hid h; clear h
  have HZ := Lib.hid hz; clear hz
  have HV := Lib.hid hv; clear hv
  have hmk := make_bools n (by omega)
  have b0 : Below w.heap.size w (w.alloc (.cells #[.slice none 0 0] 24)) := (Below.refl _ _).alloc (Nat.le_refl _) _
  have r0 := relAt_new w none 0 0
  have d2 : decide ((512 : Int) < (n : Int)) = false := decide_eq_false (by omega)
  have d3 : decide (512 < n) = false := decide_eq_false (by omega)
  go_enter Tryd.func12, Tryd.ntmps12
  go_wp2_with fail
  go_loopw [6, 7] (fun x i wr => ∃ (K : Nat) (v : Value) (B C : Nat → Nat), v = x ∧ i = .int .i64 K ∧ K ≤ n ∧ BTab wr (w.heap.size + 1) v K n B C (fun _ _ => false) ∧ RelAt wr w.heap.size none 0 0 ∧ Below w.heap.size w wr) (fun _ i _ => n - (intOf i).toNat)
  case atStart => exact ⟨0, _, fun _ => 0, fun _ => 0, rfl, rfl, by omega, ⟨World.ownsRow_nil _ _ _ _, fun i hi => absurd hi (Nat.not_lt_zero _), fun i _ hi => absurd hi (Nat.not_lt_zero _)⟩, r0, b0⟩
  case round =>
    clear r0 b0
    obtain ⟨K, vv, B, C, rfl, rfl, hK, hBT, hr, hB⟩ := hrel
    have hbw : w.heap.size + 1 ≤ wr.heap.size := by have := hr.lt; omega
    by_cases hlt : K < n
    · have bA : Below wr.heap.size wr (wr.alloc (.cells (madeCells #[.bool false] n) 4)) := (Below.refl _ _).alloc (Nat.le_refl _) _
      have hrow := brow_made wr (w.heap.size + 1) n hbw (by omega)
      have hBA := hBT.below bA
      have hrA := hr.below bA
      have BA := below_next hB bA
      have hfresh : ∀ i, i < K → B i ≠ wr.heap.size := fun i hi e => by have := (hBT.r i hi).lt.2; omega
      have hbase : w.heap.size + 1 ≤ (wr.alloc (.cells (madeCells #[.bool false] n) 4)).heap.size := by simp; omega
      go_wp2_with (at_builtin; refine append_brow rfl (.tmp 23) (.tmp 26) rfl (w.heap.size + 1) vv K n wr.heap.size n B C (fun _ _ => false) _ _ rfl hBA hrow (by show Value.slice (some ⟨wr.heap.size + 1, 0, none⟩) 1 1 = _; simp) (by omega) hbase hfresh ?_)
      intro g' cap w5 hBT5 hg5
      have bP := below_one (wr.alloc (.cells (madeCells #[.bool false] n) 4)) (.cells #[.slice (some ⟨wr.heap.size, 0, none⟩) n n] 57)
      have hownA := own_below hBA.o bP
      have B5 := grown_below2 (below_next BA bP) hownA (by omega) hg5
      have hr5 : RelAt w5 w.heap.size none 0 0 := (hg5.block _ (by have := (hrA.below bP).lt; exact this) (fun e => by have := (hownA.lt _ e.symm).1; omega)).trans (hrA.below bP)
      go_wp2_with fail
      go_roundw
      case rel =>
        exact ⟨K + 1, _, _, _, rfl, by go_num, by omega, hBT5.congr (fun i _ j _ => by simp), hr5, B5⟩
      case measure => simp [intOf]; omega
    · obtain rfl : K = n := by omega
      have hBT2 := hBT.congr (S := TwoOf z 0) (fun i _ j _ => by
        cases e : TwoOf z 0 i j
        · rfl
        · obtain ⟨k, hk, _⟩ := TwoOf_iff.1 e
          omega)
      clear hmk
      go_wp2_with fail
      go_loopw [8, 9, 10] (fun i _ _ w2 => ∃ I : Nat, I ≤ J ∧ i = .int .i64 I ∧ BTab w2 (w.heap.size + 1) vv K K B C (TwoOf z I) ∧ RelAt w2 w.heap.size none 0 0 ∧ Below w.heap.size w w2) (fun i _ _ _ => m - (intOf i).toNat)
      case atStart => exact ⟨0, by omega, rfl, hBT2, hr, hB⟩
      case round =>
        clear hBT hBT2 hr hB
        obtain ⟨I, hI, rfl, hBT, hr, hB⟩ := hrel
        by_cases hIm : I < m
        · obtain ⟨b, off, rfl, hbl, hcz⟩ := (HP.out.below hB) (by omega)
          obtain ⟨x0, x1⟩ := hcz I hIm
          clear hcz
          by_cases hIJ : I < J
          · obtain ⟨q1, q2, q3, q4⟩ := HZ.out I hIJ
            obtain ⟨i, hi⟩ : ∃ i : Nat, (z I).1 = (i : Int) := ⟨(z I).1.toNat, by omega⟩
            obtain ⟨j, hj⟩ : ∃ j : Nat, (z I).2 = (j : Int) := ⟨(z I).2.toNat, by omega⟩
            rw [hi] at x0 q1 q2
            rw [hj] at x1 q3 q4
            have hT := fun a x => twoOf_succ (K := I) hi hj a x
            have HT2 := Lib.hid hT
            clear hT hi hj
            have hik : i < K := by omega
            have hjk : j < K := by omega
            obtain ⟨Av, cv, rfl⟩ := hBT.form
            obtain ⟨gT, rfl, _, y0⟩ := hBT.cell hik
            have y1 := (hBT.r i hik).cell hjk
            have y2 := (hBT.r i hik).frozen j
            have hlo := (hBT.r i hik).lt.1
            generalize TwoOf z I i j = yy at y1
            have e1 : decide ((i : Int) < 0) = false := decide_eq_false (by omega)
            have e2 : decide ((K : Int) ≤ (i : Int)) = false := decide_eq_false (by omega)
            have e3 : decide ((j : Int) < 0) = false := decide_eq_false (by omega)
            have e4 : decide ((K : Int) ≤ (j : Int)) = false := decide_eq_false (by omega)
            have e5 : decide (K ≤ i) = false := decide_eq_false (by omega)
            have e6 : decide (K ≤ j) = false := decide_eq_false (by omega)
            go_wp2_with fail
            go_roundw
            case rel => exact ⟨I + 1, by omega, by go_num, (hBT.set hik j true).congr (fun a _ x _ => HT2.out a x), hr.far (by show w.heap.size ≠ B i; omega) _, hB.setCell (p := ⟨B i, j, none⟩) (by show w.heap.size ≤ B i; omega) _⟩
            case measure => simp [intOf]; omega
          · obtain rfl : I = J := by omega
            rcases HV.out with ⟨_, h2⟩ | ⟨rfl, _, hbad⟩
            · omega
            · have c0 := hr.c0
              have f0 := hr.free 0
              clear HZ
              generalize (z I).1 = a at *
              generalize (z I).2 = b2 at *
              by_cases q1 : a < 0
              · have e1 : decide (a < 0) = true := decide_eq_true q1
                clear hbad
                go_wp2_with fail
                refine bodyPost_ret (v := .tuple #[.agg #[.slice none 0 0], .bool false]) (by simp [results, Tryd.results12, go_sem, c0]) rfl ?_
                exact Or.inr ⟨rfl, rfl, hB.setCell (p := ⟨w.heap.size, 0, none⟩) (Nat.le_refl _) _⟩
              · have e1 : decide (a < 0) = false := decide_eq_false q1
                by_cases q2 : (K : Int) ≤ a
                · have e2 : decide ((K : Int) ≤ a) = true := decide_eq_true q2
                  clear hbad
                  go_wp2_with fail
                  refine bodyPost_ret (v := .tuple #[.agg #[.slice none 0 0], .bool false]) (by simp [results, Tryd.results12, go_sem, c0]) rfl ?_
                  exact Or.inr ⟨rfl, rfl, hB.setCell (p := ⟨w.heap.size, 0, none⟩) (Nat.le_refl _) _⟩
                · have e2 : decide ((K : Int) ≤ a) = false := decide_eq_false q2
                  by_cases q3 : b2 < 0
                  · have e3 : decide (b2 < 0) = true := decide_eq_true q3
                    clear hbad
                    go_wp2_with fail
                    refine bodyPost_ret (v := .tuple #[.agg #[.slice none 0 0], .bool false]) (by simp [results, Tryd.results12, go_sem, c0]) rfl ?_
                    exact Or.inr ⟨rfl, rfl, hB.setCell (p := ⟨w.heap.size, 0, none⟩) (Nat.le_refl _) _⟩
                  · have e3 : decide (b2 < 0) = false := decide_eq_false q3
                    have e4 : decide ((K : Int) ≤ b2) = true := decide_eq_true (by omega)
                    clear hbad
                    go_wp2_with fail
                    refine bodyPost_ret (v := .tuple #[.agg #[.slice none 0 0], .bool false]) (by simp [results, Tryd.results12, go_sem, c0]) rfl ?_
                    exact Or.inr ⟨rfl, rfl, hB.setCell (p := ⟨w.heap.size, 0, none⟩) (Nat.le_refl _) _⟩
        · rcases HV.out with ⟨rfl, hJm⟩ | ⟨_, h2, _⟩
          · obtain rfl : I = m := by omega
            go_wp2_with fail
            refine (from_new vv K B C (TwoOf z I) _ (hBT.mono (Nat.zero_le _)) hn).mono ?_; rintro e w5 ⟨A5, c5, R5, rfl, h5, hf5, hv5, hm5, b5⟩
            have r5 := hr.below b5
            have f5 := r5.free 0
            have c5' := r5.c0
            have B5 := (below_next hB b5).setCell (p := ⟨w.heap.size, 0, none⟩) (Nat.le_refl _) (.slice A5 K c5)
            have h6 := h5.far_new hf5 (q := ⟨w.heap.size, 0, none⟩) hr.lt (.slice A5 K c5)
            have H6 := Lib.hid h6
            have H7 := Lib.hid hm5
            clear h5 h6 hm5
            go_wp2_with fail
            refine bodyPost_ret (v := .tuple #[.agg #[.slice A5 K c5], .bool true]) (by simp [results, Tryd.results12, go_sem, c5']) rfl ?_
            exact Or.inl ⟨rfl, A5, c5, R5, rfl, H6.out, hv5, H7.out, B5⟩
          · omega
end Go.Proofs.YtfjikeejifhnbaaDoor
