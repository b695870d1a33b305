/- The reference's Compose of two tables. -/
import Derived.Test.YtfjikeejifhnbaaDoorRTin
namespace Go.Proofs.YtfjikeejifhnbaaDoor
open Go.RowKit
/- the composition by way of the first D numbers -/
def cpart (T S : Nat → Nat → Bool) (K D x : Nat) : Bool := (List.range D).any fun k => T K k && S k x
theorem cpart_succ (T S : Nat → Nat → Bool) (K D x : Nat) : cpart T S K (D + 1) x = (cpart T S K D x || (T K D && S D x)) := by
  unfold cpart; rw [List.range_succ, List.any_append]; simp
set_option maxRecDepth 100000 in
set_option maxHeartbeats 8000000 in
theorem refCompose_any (v0 v1 : Value) (n : Nat) (B0 C0 B1 C1 : Nat → Nat) (T S : Nat → Nat → Bool) (w : World) (h : BTab w 0 v0 n n B0 C0 T) (h1 : BTab w 0 v1 n n B1 C1 S) (hn : n ≤ 512) :
    Calls Tryd.prog 29 #[v0, v1] w (TabOk w n (comp n T S)) := by
  obtain ⟨A, c, rfl⟩ := h.form
  obtain ⟨A1, c1, rfl⟩ := h1.form
  have HH := Lib.hid h; clear h
  have H1 := Lib.hid h1; clear h1
  have hmk := make_bools n (by omega)
  go_enter Tryd.func29, Tryd.ntmps29
  go_wp2_with fail
  go_loopw [6, 7, 8, 9, 10] (fun x i _ _ _ wr => ∃ (K : Nat) (v : Value) (B C : Nat → Nat), v = x ∧ i = .int .i64 K ∧ K ≤ n ∧ BTab wr w.heap.size v K n B C (comp n T S) ∧ Below w.heap.size w wr) (fun _ i _ _ _ _ => n - (intOf i).toNat)
  case atStart => exact ⟨0, _, fun _ => 0, fun _ => 0, rfl, rfl, by omega, ⟨World.ownsRow_nil _ _ _ _, fun i hi => absurd hi (Nat.not_lt_zero _), fun i _ hi => absurd hi (Nat.not_lt_zero _)⟩, Below.refl _ _⟩
  case round =>
    obtain ⟨K, v, B, C, rfl, rfl, hK, hBT, hB⟩ := hrel
    by_cases hlt : K < n
    · have hbw : w.heap.size ≤ wr.heap.size := hB.size
      have bA : Below wr.heap.size wr (wr.alloc (.cells (madeCells #[.bool false] n) 4)) := (Below.refl _ _).alloc (Nat.le_refl _) _
      have hrow := (brow_made wr w.heap.size n hbw (by omega)).congr (h := cpart T S K 0) (fun j _ => rfl)
      have hBA := hBT.below bA
      have BA := below_next hB bA
      have hfresh : Hid (∀ i, i < K → B i ≠ wr.heap.size) := fun i hi e => by have := (hBT.r i hi).lt.2; omega
      go_wp2_with fail
      clear hBT hB bA
      generalize wr.heap.size = g at *
      generalize wr.alloc (.cells (madeCells #[.bool false] n) 4) = W1 at *
      go_loopw [9, 10] (fun j _ w2 => ∃ D : Nat, D ≤ n ∧ j = .int .i64 D ∧ BTab w2 w.heap.size v K n B C (comp n T S) ∧ BRow w2 w.heap.size g n n (cpart T S K D) ∧ Below w.heap.size w w2) (fun j _ _ => n - (intOf j).toNat)
      case atStart => exact ⟨0, by omega, rfl, hBA, hrow, BA⟩
      case round =>
        clear hBA hrow BA
        obtain ⟨D, hD, rfl, hBT, hrow, hB⟩ := hrel
        by_cases hlt2 : D < n
        · have HB := HH.out.below hB
          obtain ⟨gT, rfl, _, y0⟩ := HB.cell hlt
          have y1 := (HB.r K hlt).cell hlt2
          clear HB
          by_cases hT : T K D = true
          · rw [hT] at y1
            have hrow' := hrow.congr (h := fun x => if x < 0 then cpart T S K D x || S D x else cpart T S K D x) (fun x _ => by rw [if_neg (Nat.not_lt_zero _)])
            have HTT := Lib.hid hT
            clear hT
            go_wp2_with fail
            clear y0 y1
            go_loopw [10] (fun j w2 => ∃ E : Nat, E ≤ n ∧ j = .int .i64 E ∧ BTab w2 w.heap.size v K n B C (comp n T S) ∧ BRow w2 w.heap.size g n n (fun x => if x < E then cpart T S K D x || S D x else cpart T S K D x) ∧ Below w.heap.size w w2) (fun j _ => n - (intOf j).toNat)
            case atStart => exact ⟨0, by omega, rfl, hBT, hrow', hB⟩
            case round =>
              clear hBT hrow hrow' hB
              obtain ⟨E, hE, rfl, hBT, hrow, hB⟩ := hrel
              by_cases hlt3 : E < n
              · have HB := H1.out.below hB
                obtain ⟨gS, rfl, _, y0⟩ := HB.cell hlt2
                have y1 := (HB.r D hlt2).cell hlt3
                have z0 := hrow.cell hlt3
                have z1 := hrow.frozen E
                clear HB
                by_cases hS : S D E = true
                · rw [hS] at y1
                  have HSS := Lib.hid hS
                  clear hS
                  have hz : Hid (wr.cell? ⟨g, E, none⟩ = some (.bool (if E < E then cpart T S K D E || S D E else cpart T S K D E))) := z0
                  generalize (if E < E then cpart T S K D E || S D E else cpart T S K D E) = y at *
                  go_wp2_with fail
                  go_roundw
                  case rel =>
                    refine ⟨E + 1, by omega, by go_num, hBT.far hrow hfresh.out _, (hrow.set E _).congr (fun x _ => ?_), hB.setCell (p := ⟨g, E, none⟩) hbw _⟩
                    by_cases hx : x = E
                    · rw [if_pos hx, if_pos (by omega), hx, HSS.out]; simp
                    · rw [if_neg hx]
                      by_cases hx2 : x < E
                      · rw [if_pos hx2, if_pos (by omega)]
                      · rw [if_neg hx2, if_neg (by omega)]
                  case measure => simp [intOf]; omega
                · have hS2 : S D E = false := by simpa using hS
                  rw [hS2] at y1
                  clear hS
                  have HSS := Lib.hid hS2
                  clear hS2 z0 z1
                  go_wp2_with fail
                  go_roundw
                  case rel =>
                    refine ⟨E + 1, by omega, by go_num, hBT, hrow.congr (fun x _ => ?_), hB⟩
                    by_cases hx : x = E
                    · rw [if_neg (by omega), if_pos (by omega), hx, HSS.out]; simp
                    · by_cases hx2 : x < E
                      · rw [if_pos hx2, if_pos (by omega)]
                      · rw [if_neg hx2, if_neg (by omega)]
                  case measure => simp [intOf]; omega
              · obtain rfl : E = n := by omega
                go_wp2_with fail
                go_roundw
                case rel => exact ⟨D + 1, by omega, by go_num, hBT, hrow.congr (fun x hx => by rw [if_pos hx, cpart_succ, HTT.out]; simp), hB⟩
                case measure => simp [intOf]; omega
          · have hT2 : T K D = false := by simpa using hT
            rw [hT2] at y1
            have HTT := Lib.hid hT2
            clear hT hT2
            go_wp2_with fail
            go_roundw
            case rel => exact ⟨D + 1, by omega, by go_num, hBT, hrow.congr (fun x _ => by rw [cpart_succ, HTT.out]; simp), hB⟩
            case measure => simp [intOf]; omega
        · obtain rfl : D = n := by omega
          have hbase : w.heap.size ≤ wr.heap.size := hB.size
          go_wp2_with (at_builtin; refine append_brow rfl (.tmp 48) (.tmp 50) rfl w.heap.size v K D g D B C (comp D T S) _ wr rfl hBT hrow rfl (by omega) hbase hfresh.out ?_)
          intro g' cap w5 hBT5 hg5
          have bP : Below wr.heap.size wr (wr.alloc (.cells #[.slice (some ⟨g, 0, none⟩) D D] 57)) := (Below.refl _ _).alloc (Nat.le_refl _) _
          have hownA := own_below hBT.o bP
          have B5 := grown_below2 (below_next hB bP) hownA (by omega) hg5
          go_wp2_with fail
          go_roundw
          case rel =>
            refine ⟨K + 1, _, _, _, rfl, by go_num, by omega, hBT5.congr (fun i hi j hj => ?_), B5⟩
            by_cases e : i = K
            · rw [if_pos e, e]; rfl
            · rw [if_neg e]
          case measure => simp [intOf]; omega
    · obtain rfl : K = n := by omega
      go_wp2_with fail
      go_ret
      exact ⟨v, B, C, rfl, hBT, hB⟩
end Go.Proofs.YtfjikeejifhnbaaDoor
