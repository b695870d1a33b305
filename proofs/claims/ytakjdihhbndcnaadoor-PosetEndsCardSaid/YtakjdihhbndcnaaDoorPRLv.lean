/- The reference's Levels. -/
import Derived.Test.YtakjdihhbndcnaaDoorPLvM
import Derived.Test.YtakjdihhbndcnaaDoorPRfV
namespace Go.Proofs.YtakjdihhbndcnaaDoor
open Go.RowKit Go.Sort
structure RvAt (w wr : World) (g n c : Nat) (A : Option Addr) (F : Nat → Int) : Prop where
  b : wr.rowIs g 3 n (ivals F)
  r : RelAt wr w.heap.size A n c
  f : Below w.heap.size w wr
variable {w wr w2 : World} {g n c : Nat} {A : Option Addr} {F : Nat → Int}
theorem RvAt.next (h : RvAt w wr g n c A F) (b : Below wr.heap.size wr w2) : RvAt w w2 g n c A F := ⟨row_below h.b b, h.r.below b, below_next h.f b⟩
theorem RvAt.put (h : RvAt w wr g n c A F) (hg : w.heap.size < g) (j : Nat) (x : Int) : RvAt w (wr.setCell ⟨g, j, none⟩ (.int .i64 x)) g n c A (put F j x) :=
  ⟨row_put h.b x, h.r.far (q := ⟨g, j, none⟩) (by show w.heap.size ≠ g; omega) _, h.f.setCell (p := ⟨g, j, none⟩) (by show w.heap.size ≤ g; omega) _⟩
def RLevOk (w : World) (n : Nat) (L : Nat → Int) (e : Ending) (w' : World) : Prop :=
  ∃ g, e = .returned (.slice (some ⟨g, 0, none⟩) n n) ∧ w.heap.size ≤ g ∧ w'.rowIs g 3 n (ivals L) ∧ Below w.heap.size w w'
set_option maxRecDepth 100000 in
set_option maxHeartbeats 8000000 in
theorem rlevels_any (A : Option Addr) (n c : Nat) (R : Nat → RowD) (L : Nat → Int) (w : World) (h : Rel w A n R) (hv : VRel n R) (hL : IsLev n (mat R) L) (hb : ∀ j, j < n → L j ≤ n) :
    Calls Tryd.prog 32 #[.agg #[.slice A n c]] w (RLevOk w n L) := by
  have HH := Lib.hid h
  have HV := Lib.hid hv
  have HL := Lib.hid hL
  have HLB := Lib.hid hb
  have hn := hv.1
  have b0 : Below w.heap.size w (w.alloc (.cells #[.slice A n c] 24)) := (Below.refl _ _).alloc (Nat.le_refl _) _
  have r0 := relAt_new w A n c
  have c0 := r0.c0
  have hsz : (w.alloc (.cells #[.slice A n c] 24)).heap.size = w.heap.size + 1 := by simp
  have hgl : w.heap.size < (w.alloc (.cells #[.slice A n c] 24)).heap.size := by omega
  have mk := make_ints n (by omega)
  clear h hv hL hb hsz
  go_enter Tryd.func32, Tryd.ntmps32
  go_upto_region 1 with fail
  generalize w.alloc (.cells #[.slice A n c] 24) = W at *
  have e3 : (W.alloc (.cells (madeCells #[.int .i64 0] n) 3)).heap[W.heap.size]? = some (.cells (madeCells #[.int .i64 0] n) 3) := heap_alloc_new W _
  have b3 : Below W.heap.size W (W.alloc (.cells (madeCells #[.int .i64 0] n) 3)) := (Below.refl _ _).alloc (Nat.le_refl _) _
  have hA0 : RvAt w (W.alloc (.cells (madeCells #[.int .i64 0] n) 3)) W.heap.size n c A (fun _ => 0) := ⟨row_of_made e3, r0.below b3, below_next b0 b3⟩
  clear e3 b3
  go_upto_region 3 with fail
  clear mk c0 r0 b0
  generalize W.alloc (.cells (madeCells #[.int .i64 0] n) 3) = W2 at *
  generalize W.heap.size = g at *
  have hr0 : RlR n L (fun _ => 0) 0 := fun j hj => ⟨Int.le_refl _, (HL.out.2 j hj).1, by have := (HL.out.2 j hj).1; show min (L j) ((0 : Nat) : Int) ≤ 0; omega⟩
  have HR0 := Lib.hid hr0
  clear hr0
  go_wp2_with fail
  go_loopw [5, 6, 7, 8] (fun i _ _ _ wr => ∃ r F, r ≤ n ∧ i = .int .i64 (r : Nat) ∧ RvAt w wr g n c A F ∧ Hid (RlR n L F r)) (fun i _ _ _ _ => n - (intOf i).toNat)
  case atStart => exact ⟨0, _, Nat.zero_le _, rfl, hA0, HR0⟩
  case round =>
    clear hA0 HR0
    obtain ⟨r, F, hr, rfl, hA, HRR⟩ := hrel
    by_cases hlt : r < n
    · have hI0 : Hid (RlI n (mat R) L F r 0 0 false) := Lib.hid (RlI.begin HRR.out)
      clear HRR
      go_wp2_with fail
      go_loopw [6, 7, 8] (fun ch i _ wr => ∃ I F b, I ≤ n ∧ ch = .bool b ∧ i = .int .i64 (I : Nat) ∧ RvAt w wr g n c A F ∧ Hid (RlI n (mat R) L F r I 0 b)) (fun _ i _ _ => n - (intOf i).toNat)
      case atStart => exact ⟨0, F, false, Nat.zero_le _, rfl, rfl, hA, hI0⟩
      case round =>
        clear hA hI0
        obtain ⟨I, F, b, hI, rfl, rfl, hA, HI⟩ := hrel
        by_cases hltI : I < n
        · go_wp2_with fail
          go_loopw [6, 8] (fun ch j wr => ∃ J F b, J ≤ n ∧ ch = .bool b ∧ j = .int .i64 (J : Nat) ∧ RvAt w wr g n c A F ∧ Hid (RlI n (mat R) L F r I J b)) (fun _ j _ => n - (intOf j).toNat)
          case atStart => exact ⟨0, F, b, Nat.zero_le _, rfl, rfl, hA, HI⟩
          case round =>
            clear hA HI
            obtain ⟨J, F, b, hJ, rfl, rfl, hA, HI⟩ := hrel
            by_cases hltJ : J < n
            · obtain ⟨t, ht⟩ : ∃ t, mat R I J = t := ⟨_, rfl⟩
              have hbI := HI.out.b I hltI
              have hbJ := HI.out.b J hltJ
              have hLI := HLB.out I hltI
              have k0 := cell_regrown hA.r.c0
              have u1 : wr.cell? ⟨g, J, none⟩ = some (.int .i64 (F J)) := hA.b.cell hltJ
              have u2 : wr.cell? ⟨g, I, none⟩ = some (.int .i64 (F I)) := hA.b.cell hltI
              have k1 := cell_regrown u1
              have k2 := cell_regrown u2
              have CA := Lib.hid (fun d os => Calls.regrown_of (rless_any A n c I J R (grow (redrawn wr d) os) ((HH.out.below hA.f).below (below_regrown wr d os)) HV.out hltI hltJ))
              rw [ht] at CA
              obtain ⟨q, hq⟩ : ∃ q, decide (F J ≤ F I) = q := ⟨_, rfl⟩
              have HT := Lib.hid ht
              have HQ := Lib.hid hq
              have hw3 : IntKind.i64.wrap (F I + 1) = F I + 1 := IntWalk.i64_in _ (by omega)
              have HBI : Hid (F I ≤ n) := Lib.hid (by omega)
              have HB0 : Hid (0 ≤ F I) := Lib.hid hbI.1
              have HFI := Lib.hid (show ∃ x, F I = x from ⟨_, rfl⟩)
              clear ht u1 u2 hbI hbJ hLI
              cases t with
              | false =>
                have HN := Lib.hid (HI.out.no hltI (fun h => by have h1 := HT.out; rw [h.1] at h1; cases h1))
                clear HI
                go_wp2_with fail
                refine wp_region_quiet_below (by kernel_rfl) (by kernel_rfl) ?_
                repeat (first | go_big_quiet_step (first | with_reducible exact CA.out _ _) | quiet_step (first | with_reducible exact CA.out _ _))
                refine wpQuiet_nil ?_
                intro _ hw'
                obtain ⟨⟨dq, osq⟩, hw''⟩ := hw'
                subst hw''
                have hA2 := hA.next (below_regrown wr dq osq)
                clear hA k0 k1 k2 CA hq hw3
                go_wp2_with fail
                go_roundw
                case rel => exact ⟨J + 1, F, b, hltJ, rfl, by go_num, hA2, HN⟩
                case measure => simp [intOf]; omega
              | true =>
                cases q with
                | false =>
                  have HN := Lib.hid (HI.out.no hltI (fun h => by have h1 := HQ.out; rw [decide_eq_false_iff_not] at h1; exact h1 h.2))
                  clear HI
                  go_wp2_with fail
                  refine wp_region_quiet_below (by kernel_rfl) (by kernel_rfl) ?_
                  repeat (first | go_big_quiet_step (first | with_reducible exact CA.out _ _) | quiet_step (first | with_reducible exact CA.out _ _))
                  refine wpQuiet_nil ?_
                  intro _ hw'
                  obtain ⟨⟨dq, osq⟩, hw''⟩ := hw'
                  subst hw''
                  have hA2 := hA.next (below_regrown wr dq osq)
                  clear hA k0 k1 k2 CA hw3
                  go_wp2_with fail
                  go_roundw
                  case rel => exact ⟨J + 1, F, b, hltJ, rfl, by go_num, hA2, HN⟩
                  case measure => simp [intOf]; omega
                | true =>
                  have HN := Lib.hid (HI.out.yes HL.out hltI hltJ HT.out (of_decide_eq_true HQ.out))
                  clear HI
                  go_wp2_with fail
                  refine wp_region_quiet_below (by kernel_rfl) (by kernel_rfl) ?_
                  repeat (first | go_big_quiet_step (first | with_reducible exact CA.out _ _) | quiet_step (first | with_reducible exact CA.out _ _))
                  refine wpQuiet_nil ?_
                  intro _ hw'
                  obtain ⟨⟨dq, osq⟩, hw''⟩ := hw'
                  subst hw''
                  have hA2 := hA.next (below_regrown wr dq osq)
                  have hA3 := hA2.put hgl J (F I + 1)
                  have v1 : (grow (redrawn wr dq) osq).cell? ⟨g, I, none⟩ = some (.int .i64 (F I)) := hA2.b.cell hltI
                  have v2 : (grow (redrawn wr dq) osq).cell? ⟨g, J, none⟩ = some (.int .i64 (F J)) := hA2.b.cell hltJ
                  have v3 := hA2.b.frozen J
                  have HA3 := Lib.hid hA3
                  clear hA k0 k1 k2 CA hA2 hA3
                  go_wp2_with fail
                  go_roundw
                  case rel => exact ⟨J + 1, put F J (F I + 1), true, hltJ, rfl, by go_num, HA3.out, HN⟩
                  case measure => simp [intOf]; omega
            · obtain rfl : J = n := by omega
              have HN := Lib.hid HI.out.row
              clear HI
              go_wp2_with fail
              go_roundw
              case rel => exact ⟨I + 1, F, b, hltI, rfl, by go_num, hA, HN⟩
              case measure => simp [intOf]; omega
        · obtain rfl : I = n := by omega
          have c0 := hA.r.c0
          cases b with
          | true =>
            have HN := Lib.hid (HI.out.round HL.out)
            clear HI c0
            go_wp2_with fail
            go_roundw
            case rel => exact ⟨r + 1, F, hlt, by go_num, hA, HN⟩
            case measure => simp [intOf]; omega
          | false =>
            have HN := Lib.hid (HI.out.done HL.out)
            clear HI c0
            go_wp2_with fail
            go_ret
            exact ⟨g, rfl, Nat.le_of_lt hgl, hA.b.congr fun j hj => by unfold ivals; rw [HN.out j hj], hA.f⟩
    · obtain rfl : r = n := by omega
      have HN := Lib.hid (RlR.end HRR.out HLB.out)
      clear HRR
      go_wp2_with fail
      go_ret
      exact ⟨g, rfl, Nat.le_of_lt hgl, hA.b.congr fun j hj => by unfold ivals; rw [HN.out j hj], hA.f⟩
end Go.Proofs.YtakjdihhbndcnaaDoor
