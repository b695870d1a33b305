/- The law MatchingHall: the walk. -/
import Derived.Test.YtmafnncpdccfdaaMHaQ
import Derived.Lib.QuietBelow
namespace Go.Proofs.Ytmafnncpdccfdaa
open Go.RowKit Go.Sort
theorem i64_and_nat (a b : Nat) (ha : a < 9223372036854775808) (hb : b < 9223372036854775808) : bits .and .i64 (a : Int) (b : Int) = ((a &&& b : Nat) : Int) := by
  have hx : a &&& b ≤ a := Nat.and_le_left
  show IntKind.i64.wrap ((BitVec.ofInt 64 (a : Int) &&& BitVec.ofInt 64 (b : Int)).toNat : Int) = _
  rw [BitVec.toNat_and, ofInt_u64 a (by omega), ofInt_u64 b (by omega)]
  exact IntWalk.i64_in _ (by omega)
theorem and_one_i64 (x u : Nat) (hx : x < 9223372036854775808) : (bits .and .i64 ((x : Int) / 2 ^ u) 1 == 1) = x.testBit u := by
  have hq : x / 2 ^ u < 9223372036854775808 := Nat.lt_of_le_of_lt (Nat.div_le_self _ _) hx
  have h1 : bits .and .i64 ((x / 2 ^ u : Nat) : Int) ((1 : Nat) : Int) = ((x / 2 ^ u &&& 1 : Nat) : Int) := i64_and_nat _ 1 hq (by omega)
  rw [Nat.and_one_is_mod] at h1
  have h2 : bits .and .i64 ((x : Int) / 2 ^ u) 1 = ((x / 2 ^ u % 2 : Nat) : Int) := by rw [shr_cast]; exact h1
  rw [h2, Nat.testBit_eq_decide_div_mod_eq]
  by_cases h : x / 2 ^ u % 2 = 1
  · rw [h]; rfl
  · rw [decide_eq_false h]; exact beq_false_of_ne (by omega)
theorem lst_le (d : Nat → Int) (l0 : Nat) : ∀ K, K ≤ l0 + 1 → lst d l0 K ≤ l0
  | 0, _ => Nat.le_refl _
  | K + 1, h => by
    have ih := lst_le d l0 K (by omega)
    show (if bst d K < d K then K else if d K = bst d K then lst d l0 K &&& K else lst d l0 K) ≤ l0
    have : lst d l0 K &&& K ≤ lst d l0 K := Nat.and_le_left
    split
    · omega
    · split <;> omega
theorem row_truth {w : World} {g n k : Nat} {T T' : Nat → Bool} {v : Bool} (h : w.rowIs g 4 n (bvals T)) (h1 : T' k = v) (h2 : ∀ j, j ≠ k → T' j = T j) : (w.setCell ⟨g, k, none⟩ (.bool v)).rowIs g 4 n (bvals T') := (h.set k _).congr fun j _ => by
  unfold bvals
  by_cases e : j = k
  · rw [if_pos e, e, h1]
  · rw [if_neg e, h2 j e]
/- the flags while they are filled -/
def fl (T : Nat → Bool) (K I : Nat) : Nat → Bool := fun x => if x < I then K.testBit x else T x
theorem fl_zero (T : Nat → Bool) (K : Nat) : fl T K 0 = T := funext fun x => by unfold fl; rw [if_neg (by omega)]
theorem fl_at (T : Nat → Bool) (K I : Nat) : fl T K (I + 1) I = K.testBit I := by unfold fl; rw [if_pos (by omega)]
theorem fl_far (T : Nat → Bool) (K I j : Nat) (h : j ≠ I) : fl T K (I + 1) j = fl T K I j := by
  unfold fl
  by_cases e : j < I
  · rw [if_pos (by omega), if_pos e]
  · rw [if_neg (by omega), if_neg e]
theorem fl_end {w : World} {g n : Nat} {T : Nat → Bool} {K : Nat} (h : w.rowIs g 4 n (bvals (fl T K n))) : w.rowIs g 4 n (bvals (mT n K)) := h.congr fun j hj => by
  unfold bvals fl mT; rw [if_pos hj, if_pos hj]
def HaP (N M : Int) (k c : Nat) (A : Option Addr) (w : World) : Prop := Calls Try.prog 7 #[.int .i64 N, .int .i64 M, .slice A k c] w fun e w' => e = .returned (.bool true) ∧ Below w.heap.size w w'
set_option maxRecDepth 100000 in
set_option maxHeartbeats 4000000 in
theorem hall_yes (n m k c : Nat) (A : Option Addr) (E : Nat → Int × Int) (w : World) (h : Prs w A k E) (hv : VG n m k E) (hn : n ≤ 10) (hm : m ≤ 60) (hk : k ≤ 400) : HaP n m k c A w := by
  have HH := Lib.hid h; clear h
  have HV := Lib.hid hv; clear hv
  have d1 : decide (10 < (n : Int)) = false := decide_eq_false (by omega)
  have d2 : decide (60 < (m : Int)) = false := decide_eq_false (by omega)
  have d3 : decide (400 < (k : Int)) = false := decide_eq_false (by omega)
  have hP0 : 2 ^ n ≤ 2 ^ 10 := Nat.pow_le_pow_right (by omega) hn
  have hP1 : 1 ≤ 2 ^ n := Nat.one_le_two_pow
  have hmin : min n 64 = n := Nat.min_eq_left (by omega)
  obtain ⟨P, hP⟩ : ∃ P : Nat, P = 2 ^ n := ⟨_, rfl⟩
  have hshl : IntKind.i64.wrap ((2 : Int) ^ n) = (P : Int) := by
    have e : ((2 : Int) ^ n) = ((2 ^ n : Nat) : Int) := by simp
    rw [e, ← hP]
    exact IntWalk.i64_in _ (by omega)
  have hP2 : P ≤ 1024 := by omega
  have hP3 : 1 ≤ P := by omega
  have hsub : IntKind.i64.wrap ((P : Int) - 1) = ((P - 1 : Nat) : Int) := by
    have e : (P : Int) - 1 = ((P - 1 : Nat) : Int) := by omega
    rw [e]; exact IntWalk.i64_in _ (by omega)
  obtain ⟨D, hD⟩ : ∃ D, D = dF E n k := ⟨_, rfl⟩
  have hDb : Hid (∀ K, D K ≤ n ∧ -400 ≤ D K) := fun K => by
    rw [hD]; unfold dF
    have h1 := cntT_le (mT n K) n
    have h2 := dC_le E (mT n K) k
    omega
  have hbe : Hid (bst D P = ((fr n m k E : Nat) : Int)) := by show _ = _; rw [hD, hP]; exact bst_end HV.out
  have hle : Hid (0 < fr n m k E → ∀ i, i < n → (lst D (P - 1) P).testBit i = mleft n m k E i) := fun hF i hi => by
    rw [hD, hP]; exact lst_end HV.out _ hF i hi
  have HDF : Hid (∀ u g K, Below w.heap.size w u → u.rowIs g 4 n (bvals (mT n K)) → Calls Try.prog 30 #[.int .i64 m, .slice A k c, .slice (some ⟨g, 0, none⟩) n n] u fun e w' => e = .returned (.int .i64 (D K)) ∧ Below u.heap.size u w') := fun u g K hb hr => by
    have hh := defic_any n m g k c A E (mT n K) u (HH.out.below hb) hr HV.out
    rw [hD]; exact hh
  clear hP hP0 hP1 hD
  go_enter Try.func7, Try.ntmps7
  go_wp2_with fail
  refine (awake_any w).mono ?_; rintro e w1 ⟨rfl, b1⟩
  go_wp2_with fail
  refine (rValid_yes _ _ _ _ _ _ _ (HH.out.below b1) HV.out).mono ?_; rintro e w2 ⟨rfl, b2⟩
  have B2 := below_next b1 b2
  go_wp2_with fail
  refine (max_ok n m k c A E w2 (HH.out.below B2) HV.out).mono ?_; rintro e w3 ⟨v, rfl, hown, b3⟩
  obtain ⟨Ap, cp, rfl, _⟩ := own_prs hown
  have hlen := len_end (n := n) (m := m) (k := k) (E := E)
  have B3 := below_next B2 b3
  have HHA := Lib.hid (hall_ok n m k c A E w3 (HH.out.below B3) HV.out)
  unfold HallOk at HHA
  generalize (prl (maxS (nbs E k) m n).L n).length = sz at *
  clear hown d1 d2 d3 b1 b2 B2 b3
  go_wp2_with fail
  refine HHA.out.mono ?_; rintro e w4 (⟨hz, rfl, b4⟩ | ⟨hz, gX, rfl, hX, b4⟩)
  · have B4 := below_next B3 b4
    have hfr : fr n m k E = 0 := by omega
    have hszn : sz = n := hz
    have B5 := below_next B4 (below_new w4 (.cells #[.int .i64 0, .slice none 0 0] 30))
    have mk := make_bools n (by omega)
    clear HHA HV B3 b4 B4 hz hlen hle
    go_upto_region 7 with fail
    generalize w4.alloc (.cells #[.int .i64 0, .slice none 0 0] 30) = w5 at *
    have r0 : (w5.alloc (.cells (madeCells #[.bool false] n) 4)).rowIs w5.heap.size 4 n (bvals fun _ => false) := row_of_made (z := .bool false) (heap_alloc_new w5 _)
    have b0 := below_new w5 (.cells (madeCells #[.bool false] n) 4)
    go_wp2_with fail
    go_loopw [11, 12, 79] (fun l b i wr => ∃ K : Nat, K ≤ P ∧ i = .int .i64 K ∧ l = .int .i64 (lst D (P - 1) K : Nat) ∧ b = .int .i64 (bst D K) ∧ (∃ T, wr.rowIs w5.heap.size 4 n (bvals T)) ∧ Below w5.heap.size w5 wr) (fun _ _ i _ => P - (intOf i).toNat)
    case atStart => exact ⟨0, by omega, rfl, rfl, rfl, ⟨_, r0⟩, b0⟩
    case round =>
      obtain ⟨K, hK, rfl, rfl, rfl, ⟨T, hT⟩, hB⟩ := hrel
      clear r0 b0
      by_cases hlt : K < P
      · have hwk : IntKind.i64.wrap ((K : Int) + 1) = (K : Int) + 1 := IntWalk.i64_in _ (by omega)
        have hl1 := lst_le D (P - 1) K (by omega)
        have hst1 : Hid (lst D (P - 1) (K + 1) = if bst D K < D K then K else if D K = bst D K then lst D (P - 1) K &&& K else lst D (P - 1) K) := rfl
        have hst2 : Hid (bst D (K + 1) = if bst D K < D K then D K else bst D K) := rfl
        obtain ⟨hdb, hdb2⟩ := hDb.out K
        obtain ⟨S, hS⟩ : ∃ S, bst D K = S := ⟨_, rfl⟩
        obtain ⟨d, hd⟩ : ∃ d, D K = d := ⟨_, rfl⟩
        obtain ⟨l, hl⟩ : ∃ l, lst D (P - 1) K = l := ⟨_, rfl⟩
        rw [hS, hd, hl] at hst1
        rw [hS, hd] at hst2
        rw [hd] at hdb hdb2
        rw [hS, hl]
        rw [hl] at hl1
        clear hS hl
        go_wp2_with fail
        go_loopw [83] (fun i w7 => ∃ I : Nat, I ≤ n ∧ i = .int .i64 I ∧ w7.rowIs w5.heap.size 4 n (bvals (fl T K I)) ∧ Below w5.heap.size w5 w7) (fun i _ => n - (intOf i).toNat)
        case atStart => exact ⟨0, by omega, rfl, by rw [fl_zero]; exact hT, hB⟩
        case round =>
          clear hT hB
          obtain ⟨I, hI, rfl, hR, hB⟩ := hrel
          by_cases hlt2 : I < n
          · have hwi : IntKind.i64.wrap ((I : Int) + 1) = (I : Int) + 1 := IntWalk.i64_in _ (by omega)
            have hmi : min I 64 = I := Nat.min_eq_left (by omega)
            have htest := and_one_i64 K I (by omega)
            have z0 : wr.cell? ⟨w5.heap.size, I, none⟩ = some (.bool (fl T K I I)) := hR.cell hlt2
            have f0 := hR.frozen I
            have hnew := row_truth (T' := fl T K (I + 1)) (k := I) hR (fl_at T K I) (fl_far T K I)
            have hBn := hB.setCell (p := ⟨w5.heap.size, I, none⟩) (by exact Nat.le_refl _) (.bool (K.testBit I))
            clear hR hB
            go_wp2_with fail
            go_roundw
            case rel => exact ⟨I + 1, by omega, by go_num, hnew, hBn⟩
            case measure => simp [intOf]; omega
          · obtain rfl : I = n := by omega
            have hR2 := fl_end hR
            clear hR
            go_wp2_with fail
            refine (HDF.out _ _ K (below_next B5 hB) hR2).mono ?_; rintro e w8 ⟨rfl, b8⟩
            have hR8 := row_below hR2 b8
            have hB8 := below_then hB b8 hB.size
            clear hR2 hB b8
            rw [hd]
            by_cases c1 : S < d
            · have q1 : decide (S < d) = true := decide_eq_true c1
              have e1 : Hid (lst D (P - 1) (K + 1) = K) := by show _ = _; rw [hst1.out, if_pos c1]
              have e2 : Hid (bst D (K + 1) = d) := by show _ = _; rw [hst2.out, if_pos c1]
              clear hst1 hst2 c1
              go_wp2_with fail
              go_roundw
              case rel => exact ⟨K + 1, by omega, by go_num, by rw [e1.out], by rw [e2.out], ⟨_, hR8⟩, hB8⟩
              case measure => simp [intOf]; omega
            · have q1 : decide (S < d) = false := decide_eq_false c1
              by_cases c2 : d = S
              · have q2 : (d == S) = true := by simp [c2]
                have e1 : Hid (lst D (P - 1) (K + 1) = l &&& K) := by show _ = _; rw [hst1.out, if_neg c1, if_pos c2]
                have e2 : Hid (bst D (K + 1) = S) := by show _ = _; rw [hst2.out, if_neg c1]
                have hand := i64_and_nat l K (by omega) (by omega)
                clear hst1 hst2 c1 c2
                go_wp2_with fail
                go_roundw
                case rel => exact ⟨K + 1, by omega, by go_num, by rw [e1.out], by rw [e2.out], ⟨_, hR8⟩, hB8⟩
                case measure => simp [intOf]; omega
              · have q2 : (d == S) = false := beq_false_of_ne c2
                have e1 : Hid (lst D (P - 1) (K + 1) = l) := by show _ = _; rw [hst1.out, if_neg c1, if_neg c2]
                have e2 : Hid (bst D (K + 1) = S) := by show _ = _; rw [hst2.out, if_neg c1]
                clear hst1 hst2 c1 c2
                go_wp2_with fail
                go_roundw
                case rel => exact ⟨K + 1, by omega, by go_num, by rw [e1.out], by rw [e2.out], ⟨_, hR8⟩, hB8⟩
                case measure => simp [intOf]; omega
      · obtain rfl : K = P := by omega
        have hbz : bst D K = 0 := by rw [hbe.out, hfr]; rfl
        have q3 : ((n : Int) == (n : Int)) = true := by simp
        rw [hbz]
        subst hszn
        go_wp2_with fail
        go_ret
        exact ⟨rfl, below_next B5 hB⟩
  · have B4 := below_next B3 b4
    have hfr : 0 < fr n m k E := by omega
    have hnle : n ≤ 512 := by omega
    have hIS : Hid (Calls Try.prog 26 #[.agg #[.int .i64 n, .slice (some ⟨gX, 0, none⟩) ((n + 63) / 64) ((n + 63) / 64)], .int .i64 n] (w4.alloc (.cells #[.int .i64 n, .slice (some ⟨gX, 0, none⟩) ((n + 63) / 64) ((n + 63) / 64)] 30)) fun e w' => e = .returned (.bool true) ∧ Below (w4.alloc (.cells #[.int .i64 n, .slice (some ⟨gX, 0, none⟩) ((n + 63) / 64) ((n + 63) / 64)] 30)).heap.size (w4.alloc (.cells #[.int .i64 n, .slice (some ⟨gX, 0, none⟩) ((n + 63) / 64) ((n + 63) / 64)] 30)) w') :=
      rIsSet_yes n _ _ _ _ _ (row_wds (row_below hX.2 (below_new w4 _)) (setF_u64 _ _)) (setF_vld hnle (fun x hx => (tl_mem.1 hx).1))
    have hXr := row_below hX.2 (below_new w4 (.cells #[.int .i64 n, .slice (some ⟨gX, 0, none⟩) ((n + 63) / 64) ((n + 63) / 64)] 30))
    have s5 := setAt_new w4 n (some ⟨gX, 0, none⟩) ((n + 63) / 64) ((n + 63) / 64)
    have B5 := below_next B4 (below_new w4 (.cells #[.int .i64 n, .slice (some ⟨gX, 0, none⟩) ((n + 63) / 64) ((n + 63) / 64)] 30))
    have mk := make_bools n (by omega)
    clear HHA HV B3 b4 B4 hX hz
    have c0 := s5.c0
    have c1 := s5.c1
    go_upto_region 7 with fail
    generalize w4.alloc (.cells #[.int .i64 n, .slice (some ⟨gX, 0, none⟩) ((n + 63) / 64) ((n + 63) / 64)] 30) = w5' at *
    generalize w4.heap.size = px at *
    go_wp2_with fail
    refine hIS.out.mono ?_; rintro e w5 ⟨rfl, b5⟩
    replace s5 := s5.below b5
    replace B5 := below_next B5 b5
    replace hXr := row_below hXr b5
    clear hIS b5 c0 c1
    have r0 : (w5.alloc (.cells (madeCells #[.bool false] n) 4)).rowIs w5.heap.size 4 n (bvals fun _ => false) := row_of_made (z := .bool false) (heap_alloc_new w5 _)
    have b0 := below_new w5 (.cells (madeCells #[.bool false] n) 4)
    go_wp2_with fail
    go_loopw [11, 12, 79] (fun l b i wr => ∃ K : Nat, K ≤ P ∧ i = .int .i64 K ∧ l = .int .i64 (lst D (P - 1) K : Nat) ∧ b = .int .i64 (bst D K) ∧ (∃ T, wr.rowIs w5.heap.size 4 n (bvals T)) ∧ Below w5.heap.size w5 wr) (fun _ _ i _ => P - (intOf i).toNat)
    case atStart => exact ⟨0, by omega, rfl, rfl, rfl, ⟨_, r0⟩, b0⟩
    case round =>
      obtain ⟨K, hK, rfl, rfl, rfl, ⟨T, hT⟩, hB⟩ := hrel
      clear r0 b0
      by_cases hlt : K < P
      · have hwk : IntKind.i64.wrap ((K : Int) + 1) = (K : Int) + 1 := IntWalk.i64_in _ (by omega)
        have hl1 := lst_le D (P - 1) K (by omega)
        have hst1 : Hid (lst D (P - 1) (K + 1) = if bst D K < D K then K else if D K = bst D K then lst D (P - 1) K &&& K else lst D (P - 1) K) := rfl
        have hst2 : Hid (bst D (K + 1) = if bst D K < D K then D K else bst D K) := rfl
        obtain ⟨hdb, hdb2⟩ := hDb.out K
        obtain ⟨S, hS⟩ : ∃ S, bst D K = S := ⟨_, rfl⟩
        obtain ⟨d, hd⟩ : ∃ d, D K = d := ⟨_, rfl⟩
        obtain ⟨l, hl⟩ : ∃ l, lst D (P - 1) K = l := ⟨_, rfl⟩
        rw [hS, hd, hl] at hst1
        rw [hS, hd] at hst2
        rw [hd] at hdb hdb2
        rw [hS, hl]
        rw [hl] at hl1
        clear hS hl
        go_wp2_with fail
        go_loopw [83] (fun i w7 => ∃ I : Nat, I ≤ n ∧ i = .int .i64 I ∧ w7.rowIs w5.heap.size 4 n (bvals (fl T K I)) ∧ Below w5.heap.size w5 w7) (fun i _ => n - (intOf i).toNat)
        case atStart => exact ⟨0, by omega, rfl, by rw [fl_zero]; exact hT, hB⟩
        case round =>
          clear hT hB
          obtain ⟨I, hI, rfl, hR, hB⟩ := hrel
          by_cases hlt2 : I < n
          · have hwi : IntKind.i64.wrap ((I : Int) + 1) = (I : Int) + 1 := IntWalk.i64_in _ (by omega)
            have hmi : min I 64 = I := Nat.min_eq_left (by omega)
            have htest := and_one_i64 K I (by omega)
            have z0 : wr.cell? ⟨w5.heap.size, I, none⟩ = some (.bool (fl T K I I)) := hR.cell hlt2
            have f0 := hR.frozen I
            have hnew := row_truth (T' := fl T K (I + 1)) (k := I) hR (fl_at T K I) (fl_far T K I)
            have hBn := hB.setCell (p := ⟨w5.heap.size, I, none⟩) (by exact Nat.le_refl _) (.bool (K.testBit I))
            clear hR hB
            go_wp2_with fail
            go_roundw
            case rel => exact ⟨I + 1, by omega, by go_num, hnew, hBn⟩
            case measure => simp [intOf]; omega
          · obtain rfl : I = n := by omega
            have hR2 := fl_end hR
            clear hR
            go_wp2_with fail
            refine (HDF.out _ _ K (below_next B5 hB) hR2).mono ?_; rintro e w8 ⟨rfl, b8⟩
            have hR8 := row_below hR2 b8
            have hB8 := below_then hB b8 hB.size
            clear hR2 hB b8
            rw [hd]
            by_cases c1 : S < d
            · have q1 : decide (S < d) = true := decide_eq_true c1
              have e1 : Hid (lst D (P - 1) (K + 1) = K) := by show _ = _; rw [hst1.out, if_pos c1]
              have e2 : Hid (bst D (K + 1) = d) := by show _ = _; rw [hst2.out, if_pos c1]
              clear hst1 hst2 c1
              go_wp2_with fail
              go_roundw
              case rel => exact ⟨K + 1, by omega, by go_num, by rw [e1.out], by rw [e2.out], ⟨_, hR8⟩, hB8⟩
              case measure => simp [intOf]; omega
            · have q1 : decide (S < d) = false := decide_eq_false c1
              by_cases c2 : d = S
              · have q2 : (d == S) = true := by simp [c2]
                have e1 : Hid (lst D (P - 1) (K + 1) = l &&& K) := by show _ = _; rw [hst1.out, if_neg c1, if_pos c2]
                have e2 : Hid (bst D (K + 1) = S) := by show _ = _; rw [hst2.out, if_neg c1]
                have hand := i64_and_nat l K (by omega) (by omega)
                clear hst1 hst2 c1 c2
                go_wp2_with fail
                go_roundw
                case rel => exact ⟨K + 1, by omega, by go_num, by rw [e1.out], by rw [e2.out], ⟨_, hR8⟩, hB8⟩
                case measure => simp [intOf]; omega
              · have q2 : (d == S) = false := beq_false_of_ne c2
                have e1 : Hid (lst D (P - 1) (K + 1) = l) := by show _ = _; rw [hst1.out, if_neg c1, if_neg c2]
                have e2 : Hid (bst D (K + 1) = S) := by show _ = _; rw [hst2.out, if_neg c1]
                clear hst1 hst2 c1 c2
                go_wp2_with fail
                go_roundw
                case rel => exact ⟨K + 1, by omega, by go_num, by rw [e1.out], by rw [e2.out], ⟨_, hR8⟩, hB8⟩
                case measure => simp [intOf]; omega
      · obtain rfl : K = P := by omega
        have hbz := hbe.out
        have hLb := hle.out hfr
        have q3 : (((fr n m k E : Nat) : Int) == 0) = false := beq_false_of_ne (by omega)
        have hw1 : IntKind.i64.wrap ((n : Int) - (sz : Int)) = ((fr n m k E : Nat) : Int) := by
          have e : (n : Int) - (sz : Int) = ((fr n m k E : Nat) : Int) := by omega
          rw [e]; exact IntWalk.i64_in _ (by omega)
        have q4 : (((fr n m k E : Nat) : Int) != ((fr n m k E : Nat) : Int)) = false := by simp
        have hl1 := lst_le D (K - 1) K (by omega)
        rw [hbz]
        generalize lst D (K - 1) K = l at *
        have HLB := Lib.hid hLb
        have s6 := s5.below hB
        have B6 := below_next B5 hB
        have hX6 := row_below hXr hB
        clear hbz hLb hbe hle hDb HDF hB hT s5 B5 hXr mk HH hmin hshl hsub
        generalize fr n m k E = F at *
        clear hlen
        go_wp2_with fail
        go_loopw [132] (fun i w7 => ∃ I : Nat, I ≤ n ∧ i = .int .i64 I ∧ Below wr.heap.size wr w7) (fun i _ => n - (intOf i).toNat)
        case atStart => exact ⟨0, by omega, rfl, Below.refl _ _⟩
        case round =>
          obtain ⟨I, hI, rfl, hB7⟩ := hrel
          by_cases hlt2 : I < n
          · have hwi : IntKind.i64.wrap ((I : Int) + 1) = (I : Int) + 1 := IntWalk.i64_in _ (by omega)
            have hmi : min I 64 = I := Nat.min_eq_left (by omega)
            have htest := and_one_i64 l I (by omega)
            rw [HLB.out I hlt2] at htest
            obtain ⟨vb, hvb⟩ : ∃ vb, mleft n m k E I = vb := ⟨_, rfl⟩
            rw [hvb] at htest
            have hbt : bt (setF (tl (mleft n m k E) true n)) I = vb := by
              rw [← hvb]
              exact Bool.eq_iff_iff.2 ((setF_bt _ _).trans (tl_mem.trans ⟨fun h => h.2, fun h => ⟨hlt2, h⟩⟩))
            have q5 : (vb != vb) = false := by simp
            have s7 := s6.below hB7
            have k0 := cell_regrown s7.c0
            have k1 := cell_regrown s7.c1
            have hX7 := row_wds (row_below hX6 hB7) (setF_u64 _ _)
            have CA := Lib.hid (fun d os => Calls.regrown_of (rHas_in n I _ _ ((n + 63) / 64) _ vb (grow (redrawn wr d) os) (hX7.below (below_regrown wr d os)) hlt2 (by omega) rfl hbt))
            clear hvb hX7 hbt
            go_wp2_with fail
            refine wp_region_quiet_below (by kernel_rfl) (by kernel_rfl) ?_
            repeat (first | go_big_quiet_step (with_reducible exact CA.out _ _) | quiet_step (with_reducible exact CA.out _ _))
            refine wpQuiet_nil ?_
            intro _ hw'
            obtain ⟨⟨dq, osq⟩, hw''⟩ := hw'
            subst hw''
            clear k0 k1 CA
            have B8 := below_next hB7 (below_regrown wr dq osq)
            go_wp2_with fail
            go_roundw
            case rel => exact ⟨I + 1, by omega, by go_num, B8⟩
            case measure => simp [intOf]; omega
          · obtain rfl : I = n := by omega
            go_wp2_with fail
            go_ret
            exact ⟨rfl, below_next B6 hB7⟩
theorem hall_skip (N M : Int) (k c : Nat) (A : Option Addr) (E : Nat → Int × Int) (w : World) (h : Prs w A k E) (hv : 10 < N ∨ 60 < M ∨ 400 < k ∨ ¬ VG N M k E) : HaP N M k c A w := by
  have HH := Lib.hid h; clear h
  by_cases c1 : 10 < N
  · have d1 : decide (10 < N) = true := decide_eq_true c1
    clear hv
    go_enter Try.func7, Try.ntmps7
    go_wp2_with fail
    refine (awake_any w).mono ?_; rintro e w1 ⟨rfl, b1⟩
    go_wp2_with fail
    go_ret
    exact ⟨rfl, b1⟩
  · have d1 : decide (10 < N) = false := decide_eq_false c1
    by_cases c2 : 60 < M
    · have d2 : decide (60 < M) = true := decide_eq_true c2
      clear hv
      go_enter Try.func7, Try.ntmps7
      go_wp2_with fail
      refine (awake_any w).mono ?_; rintro e w1 ⟨rfl, b1⟩
      go_wp2_with fail
      go_ret
      exact ⟨rfl, b1⟩
    · have d2 : decide (60 < M) = false := decide_eq_false c2
      by_cases c3 : 400 < k
      · have d3 : decide (400 < (k : Int)) = true := decide_eq_true (by omega)
        clear hv
        go_enter Try.func7, Try.ntmps7
        go_wp2_with fail
        refine (awake_any w).mono ?_; rintro e w1 ⟨rfl, b1⟩
        go_wp2_with fail
        go_ret
        exact ⟨rfl, b1⟩
      · have d3 : decide (400 < (k : Int)) = false := decide_eq_false (by omega)
        have HV := Lib.hid (show ¬ VG N M k E by rcases hv with h | h | h | h <;> first | exact h | (exact absurd h (by assumption)))
        clear hv
        go_enter Try.func7, Try.ntmps7
        go_wp2_with fail
        refine (awake_any w).mono ?_; rintro e w1 ⟨rfl, b1⟩
        go_wp2_with fail
        refine (rValid_no _ _ _ _ _ _ _ (HH.out.below b1) HV.out).mono ?_; rintro e w2 ⟨rfl, b2⟩
        go_wp2_with fail
        go_ret
        exact ⟨rfl, below_next b1 b2⟩
theorem hall_law (N M : Int) (k c : Nat) (A : Option Addr) (E : Nat → Int × Int) (w : World) (h : Prs w A k E) : HaP N M k c A w := by
  by_cases hv : 10 < N ∨ 60 < M ∨ 400 < k ∨ ¬ VG N M k E
  · exact hall_skip N M k c A E w h hv
  · have hg : VG N M k E := Classical.byContradiction fun e => hv (.inr (.inr (.inr e)))
    obtain ⟨n, rfl⟩ := Int.eq_ofNat_of_zero_le hg.n0
    obtain ⟨m, rfl⟩ := Int.eq_ofNat_of_zero_le hg.m0
    exact hall_yes n m k c A E w h hg (by omega) (by omega) (by omega)
end Go.Proofs.Ytmafnncpdccfdaa
