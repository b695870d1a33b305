/- Package width: members, pairs. -/
import Derived.Test.YtngpfondnampjaaDoorRMkP
namespace Go.Proofs.YtngpfondnampjaaDoor
open Go.RowKit Go.Sort
theorem wmembers_any (n : Nat) (r : RowD) (w : World) (ha : Wds w r.A r.l r.f) (hv : VRow n r) (hT : Tab w) :
    Calls Tryd.prog 43 #[.agg #[.int .i64 r.N, .slice r.A r.l r.c]] w (RowOut w ((List.range n).filter (bt r.f))) := by
  have hm := mem_row hv
  obtain ⟨N, A, l, c, f⟩ := r
  have hN : N = n := hv.1
  subst hN
  have HM := fun (w' : World) (h1 : Wds w' A l f) (h2 : Tab w') => members_any n A l c f w' h1 hv.2 h2
  replace hm : mem f (64 * l) = (List.range n).filter (bt f) := hm
  rw [hm] at HM
  have HMM := Lib.hid HM; clear HM hm hv
  show Calls Tryd.prog 43 #[.agg #[.int .i64 n, .slice A l c]] w (RowOut w ((List.range n).filter (bt f)))
  have HA : Hid (Wds w A l f) := ha
  clear ha
  have hO := one_new w n A l c
  have c0 := hO.s.c0
  have c1 := hO.s.c1
  generalize (List.range n).filter (bt f) = L at *
  go_enter Tryd.func43, Tryd.ntmps43
  go_wp2_with fail
  refine (HMM.out _ (HA.out.below hO.b) (hT.below hO.b)).mono ?_; rintro e w2 ⟨v, rfl, hown, b2⟩
  go_wp2_with fail
  go_ret
  exact ⟨v, rfl, own_mono hown hO.b.size, (hO.next b2).b⟩
def WPrEnd (w : World) (n : Nat) (R : Nat → RowD) (e : Ending) (w' : World) : Prop :=
  (POrd n R ∧ (pairsL (mat R) n n).length ≤ 2000 ∧ ∃ v, e = .returned (.tuple #[v, .int .i64 0]) ∧ w'.ownsRow w.heap.size 78 2 v (pairsL (mat R) n n).length (pvals (pairsL (mat R) n n)) ∧ Below w.heap.size w w') ∨
  (POrd n R ∧ 2000 < (pairsL (mat R) n n).length ∧ e = .returned (.tuple #[.slice none 0 0, .int .i64 9]) ∧ Below w.heap.size w w') ∨
  (¬ POrd n R ∧ e = .returned (.tuple #[.slice none 0 0, .int .i64 1]) ∧ Below w.heap.size w w')
set_option maxRecDepth 100000 in
set_option maxHeartbeats 4000000 in
theorem wpairs_any (A : Option Addr) (n c : Nat) (R : Nat → RowD) (w : World) (h : Rel w A n R) (hn1 : n ≤ 1000000) (hT : Tab w) :
    Calls Tryd.prog 50 #[.agg #[.slice A n c]] w (WPrEnd w n R) := by
  have HH := Lib.hid h; clear h
  have b0 : Below w.heap.size w (w.alloc (.cells #[.slice A n c] 24)) := (Below.refl _ _).alloc (Nat.le_refl _) _
  have r0 := relAt_new w A n c
  have c0 := r0.c0
  obtain ⟨v, hvv⟩ : ∃ v : Bool, v = true ↔ POrd n R := ⟨@decide _ (Classical.propDecidable _), @decide_eq_true_iff _ (Classical.propDecidable _)⟩
  have HV := Lib.hid hvv
  go_enter Tryd.func50, Tryd.ntmps50
  go_wp2_with fail
  refine (pvalid_any A n c R v _ (HH.out.below b0) hn1 (hT.below b0) hvv).mono ?_; rintro e w2 ⟨rfl, b2⟩
  have r2 := r0.below b2
  have B2 := below_next b0 b2
  clear r0 b0 b2 c0 hvv
  cases v with
  | false =>
    go_wp2_with fail
    go_ret2
    exact .inr (.inr ⟨fun h => (by have := HV.out.2 h; cases this), rfl, B2⟩)
  | true =>
    have hP := HV.out.1 (by first | rfl | exact trivial)
    have hn := hP.1.1
    have HP := Lib.hid hP
    have hnn : n * n ≤ 512 * 512 := Nat.mul_le_mul hn hn
    have c0 := r2.c0
    clear hP HV
    go_wp2_with fail
    clear c0
    go_loopw [4, 15] (fun x i wr => ∃ (K : Nat) (v : Value), K ≤ n ∧ i = .int .i64 K ∧ v = x ∧ wr.ownsRow (w.heap.size + 1) 78 2 v (pairsL (mat R) n K).length (pvals (pairsL (mat R) n K)) ∧ RelAt wr w.heap.size A n c ∧ Below w.heap.size w wr) (fun _ i _ => n - (intOf i).toNat)
    case atStart => exact ⟨0, _, by omega, rfl, rfl, World.ownsRow_nil _ _ _ _, r2, B2⟩
    case round =>
      clear r2 B2
      obtain ⟨K, v, hK, rfl, rfl, hown, hr, hB⟩ := hrel
      by_cases hlt : K < n
      · obtain ⟨b, off, rfl, hbl, hcz⟩ := (HH.out.below hB) (by omega)
        obtain ⟨x0, x1, x2⟩ := hcz K hlt
        have X2 := Lib.hid x2; clear x2 hcz hbl
        have hvk := HP.out.1.2 K hlt
        have HRow : Hid (∀ w', Wds w' (R K).A (R K).l (R K).f → Tab w' → Calls Tryd.prog 43 #[.agg #[.int .i64 (R K).N, .slice (R K).A (R K).l (R K).c]] w' (RowOut w' (rowL (mat R) n K))) := Lib.hid fun w' h1 h2 => wmembers_any n (R K) w' h1 hvk h2
        have hstep : Hid (pairsL (mat R) n (K + 1) = pairsL (mat R) n K ++ (rowL (mat R) n K).map fun j => (K, j)) := rfl
        have hlen := pairsL_len (mat R) n K
        have hlen2 : K * n ≤ n * n := Nat.mul_le_mul_right n (by omega)
        have hlr := rowL_len (mat R) n K
        have hmul : (pairsL (mat R) n K).length + n ≤ 1000000 := by omega
        clear hlen hlen2 hvk
        generalize pairsL (mat R) n K = P at *
        generalize rowL (mat R) n K = L at *
        have bA : Below wr.heap.size wr (wr.alloc (.cells #[.int .i64 (R K).N, .slice (R K).A (R K).l (R K).c] 28)) := (Below.refl _ _).alloc (Nat.le_refl _) _
        have hSA := setAt_new wr (R K).N (R K).A (R K).l (R K).c
        have hXA := Lib.hid (X2.out.below bA)
        have hBA := below_next hB bA
        have hrA := hr.below bA
        have hownA := own_below hown bA
        have hszL : w.heap.size + 1 ≤ wr.heap.size + 1 := by have := hr.lt; omega
        go_upto_region 7 with fail
        clear x0 x1
        have hsz : (wr.alloc (.cells #[.int .i64 (R K).N, .slice (R K).A (R K).l (R K).c] 28)).heap.size = wr.heap.size + 1 := by simp
        have HSZ := Lib.hid hsz
        clear hsz bA
        generalize wr.alloc (.cells #[.int .i64 (R K).N, .slice (R K).A (R K).l (R K).c] 28) = W at *
        have HR2 := Lib.hid (HRow.out W hXA.out (hT.below hBA))
        have q0 := hSA.c0
        have q1 := hSA.c1
        generalize (R K).N = N1 at *
        generalize (R K).A = A1 at *
        generalize (R K).l = l1 at *
        generalize (R K).c = c1 at *
        unfold RowOut at HR2
        go_wp2_with fail
        refine HR2.out.mono ?_; rintro e w3 ⟨vL, rfl, hownL, b3⟩
        have B3 := below_next hBA b3
        have hr3 := hrA.below b3
        have hown3 := own_below hownA b3
        replace hownL := own_mono (base' := w.heap.size + 1) hownL (by rw [HSZ.out]; omega)
        clear hown hB hr hrA hownA hBA b3 hszL q0 q1 hSA HR2 HRow hXA X2
        obtain ⟨AL, cL, rfl, _, hL2⟩ := own_ints hownL
        go_wp2_with fail
        go_loopw [4, 23] (fun x i wr => ∃ (D : Nat) (v : Value), D ≤ L.length ∧ i = .int .i64 D ∧ v = x ∧ wr.ownsRow (w.heap.size + 1) 78 2 v (P ++ (L.take D).map fun j => (K, j)).length (pvals (P ++ (L.take D).map fun j => (K, j))) ∧ wr.ownsRow (w.heap.size + 1) 3 1 (.slice AL L.length cL) L.length (vals L) ∧ RelAt wr w.heap.size (some ⟨b, off, none⟩) n c ∧ Below w.heap.size w wr) (fun _ i _ => L.length - (intOf i).toNat)
        case atStart => exact ⟨0, v, by omega, rfl, rfl, by simpa using hown3, hownL, hr3, B3⟩
        case round =>
          clear hown3 hownL hr3 B3
          obtain ⟨D, v, hD, rfl, rfl, hown, hownL, hr, hB⟩ := hrel
          by_cases hlt2 : D < L.length
          · obtain ⟨AL', cL', heq, hI, _⟩ := own_ints hownL
            injection heq with e1 _ e2
            subst e1 e2
            obtain ⟨bI, oI, rfl, _, hcI⟩ := hI (by omega)
            have y := hcI D hlt2
            clear hcI hI
            have hg : gets L D = ((L[D] : Nat) : Int) := by unfold gets; rw [List.getD_eq_getElem?_getD, List.getElem?_eq_getElem hlt2]; rfl
            rw [hg] at y
            clear hg
            have hlP : (P ++ (L.take D).map fun j => (K, j)).length ≤ 1000000 := by rw [List.length_append, List.length_map, List.length_take]; omega
            have hbase : w.heap.size + 1 ≤ wr.heap.size := by have := hr.lt; omega
            have htk : Hid ((P ++ (L.take D).map fun j => (K, j)) ++ [(K, L[D])] = P ++ (L.take (D + 1)).map fun j => (K, j)) := by
              show _ = _
              rw [List.take_succ_eq_append_getElem hlt2, List.map_append, List.append_assoc]; rfl
            generalize L[D] = j at *
            generalize (P ++ (L.take D).map fun j => (K, j)) = P2 at *
            go_wp2_with (at_builtin; refine append_pair rfl (.tmp 27) (.tmp 31) rfl (w.heap.size + 1) v P2 K j K j wr rfl hown rfl hlP hbase rfl rfl ?_)
            intro v' w5 hown5 hg5
            have bP : Below wr.heap.size wr (wr.alloc (.cells #[.int .i64 (K : Int), .int .i64 (j : Int)] 78)) := (Below.refl _ _).alloc (Nat.le_refl _) _
            have hownA := own_below hown bP
            have B5 := grown_below2 (below_next hB bP) hownA (by omega) hg5
            have hownL5 := (own_below hownL bP).kept hg5 (own_apart (own_below hownL bP) hownA (by decide))
            have hr5 : RelAt w5 w.heap.size (some ⟨b, off, none⟩) n c := (hg5.block _ (by have := (hr.below bP).lt; exact this) (fun e => by have := (hownA.lt _ e.symm).1; omega)).trans (hr.below bP)
            go_wp2_with fail
            go_roundw
            case rel => exact ⟨D + 1, v', by omega, by go_num, rfl, by rw [← htk.out, List.length_append]; exact hown5, hownL5, hr5, B5⟩
            case measure => simp [intOf]; omega
          · obtain rfl : D = L.length := by omega
            have htk : P ++ (L.take L.length).map (fun j => (K, j)) = P ++ L.map fun j => (K, j) := by rw [List.take_length]
            rw [htk, ← hstep.out] at hown
            clear htk
            go_wp2_with fail
            go_roundw
            case rel => exact ⟨K + 1, v, by omega, by go_num, rfl, hown, hr, hB⟩
            case measure => simp [intOf]; omega
      · obtain rfl : K = n := by omega
        obtain ⟨Av, cv, rfl, _⟩ := own_prs hown
        have hlen := pairsL_len (mat R) K K
        by_cases hbig : 2000 < (pairsL (mat R) K K).length
        · have d1 : decide (2000 < ((pairsL (mat R) K K).length : Int)) = true := decide_eq_true (by omega)
          have HBG := Lib.hid hbig
          clear hbig hlen hown
          obtain ⟨q, hq⟩ : ∃ q, (pairsL (mat R) K K).length = q := ⟨_, rfl⟩
          rw [hq] at d1 ⊢
          clear hq
          go_wp2_with fail
          go_ret2
          exact .inr (.inl ⟨HP.out, HBG.out, rfl, hB⟩)
        · have d1 : decide (2000 < ((pairsL (mat R) K K).length : Int)) = false := decide_eq_false (by omega)
          have HBG : Hid ((pairsL (mat R) K K).length ≤ 2000) := Lib.hid (by omega)
          have HO := Lib.hid (own_mono (base' := w.heap.size) hown (by omega))
          clear hbig hlen hown
          obtain ⟨q, hq⟩ : ∃ q, (pairsL (mat R) K K).length = q := ⟨_, rfl⟩
          have HO2 : Hid (wr.ownsRow w.heap.size 78 2 (.slice Av q cv) (pairsL (mat R) K K).length (pvals (pairsL (mat R) K K))) := Lib.hid (by
            have h1 := HO.out
            rw [show Value.slice Av (pairsL (mat R) K K).length cv = .slice Av q cv by rw [hq]] at h1
            exact h1)
          rw [hq] at d1 ⊢
          clear hq HO
          go_wp2_with fail
          go_ret2
          exact .inl ⟨HP.out, HBG.out, _, rfl, HO2.out, hB⟩
end Go.Proofs.YtngpfondnampjaaDoor
