/- The reference's Closure. -/
import Derived.Test.YtakjdihhbndcnaaDoorPRAt
namespace Go.Proofs.YtakjdihhbndcnaaDoor
open Go.RowKit Go.Sort
/- the first K rows of a table, and D truths of the next -/
def fT (T : Nat → Nat → Bool) (K D : Nat) : Nat → Nat → Bool := fun a b => T a b && (decide (a < K) || (decide (a = K) && decide (b < D)))
theorem fT_start (T : Nat → Nat → Bool) : fT T 0 0 = fun _ _ => false := by funext a b; unfold fT; simp
theorem fT_next {T : Nat → Nat → Bool} {n K a b : Nat} (hb : b < n) : fT T K n a b = fT T (K + 1) 0 a b := by
  unfold fT
  rw [decide_eq_true hb]
  by_cases h : a < K
  · rw [decide_eq_true h, decide_eq_true (by omega : a < K + 1)]; simp
  · by_cases e : a = K
    · rw [decide_eq_true e, decide_eq_true (by omega : a < K + 1)]; simp
    · rw [decide_eq_false h, decide_eq_false e, decide_eq_false (by omega : ¬ a < K + 1)]; simp
theorem fT_yes {T : Nat → Nat → Bool} {K D : Nat} (h : T K D = true) (a b : Nat) : tset (fT T K D) K D a b = fT T K (D + 1) a b := by
  unfold tset fT
  by_cases e : a = K
  · subst e
    by_cases e2 : b = D
    · subst e2; rw [h]; simp
    · have : decide (b < D + 1) = decide (b < D) := by rw [decide_eq_decide]; omega
      rw [this, decide_eq_false e2]; simp
  · rw [decide_eq_false e]; simp
theorem fT_no {T : Nat → Nat → Bool} {K D : Nat} (h : T K D = false) (a b : Nat) : fT T K D a b = fT T K (D + 1) a b := by
  unfold fT
  by_cases e : a = K
  · subst e
    by_cases e2 : b = D
    · subst e2; rw [h]; simp
    · have : decide (b < D + 1) = decide (b < D) := by rw [decide_eq_decide]; omega
      rw [this]
  · rw [decide_eq_false e]; simp
theorem fT_end {T : Nat → Nat → Bool} {n a b : Nat} (ha : a < n) : fT T n 0 a b = T a b := by unfold fT; rw [decide_eq_true ha]; simp
/- one row of one round of the closure, up to J -/
def wpart (C : Nat → Nat → Bool) (k i J : Nat) : Nat → Nat → Bool := fun a j => C a j || (decide (a = i) && C i k && decide (j < J) && C k j)
theorem wpart_start (C : Nat → Nat → Bool) (k i a j : Nat) : wpart C k i 0 a j = C a j := by unfold wpart; simp
theorem wpart_head (C : Nat → Nat → Bool) (k i J : Nat) : wpart C k i J i k = C i k := by unfold wpart; cases C i k <;> simp
theorem wpart_from (C : Nat → Nat → Bool) (k i J : Nat) : wpart C k i J k J = C k J := by unfold wpart; simp
theorem wpart_yes {C : Nat → Nat → Bool} {k i J : Nat} (h1 : C i k = true) (h2 : C k J = true) (a j : Nat) : tset (wpart C k i J) i J a j = wpart C k i (J + 1) a j := by
  unfold tset wpart
  by_cases e : a = i
  · subst e
    by_cases e2 : j = J
    · subst e2; simp [h1, h2]
    · have : decide (j < J + 1) = decide (j < J) := by rw [decide_eq_decide]; omega
      rw [this, decide_eq_false e2]; simp
  · rw [decide_eq_false e]; simp
theorem wpart_no {C : Nat → Nat → Bool} {k i J : Nat} (h2 : C k J = false) (a j : Nat) : wpart C k i J a j = wpart C k i (J + 1) a j := by
  unfold wpart
  by_cases e2 : j = J
  · subst e2; simp [h2]
  · have : decide (j < J + 1) = decide (j < J) := by rw [decide_eq_decide]; omega
    rw [this]
theorem wpart_end {C : Nat → Nat → Bool} {n k i a j : Nat} (hj : j < n) : wpart C k i n a j = wstep C k i a j := by
  unfold wpart wstep
  rw [decide_eq_true hj]
  by_cases e : a = i
  · subst e; cases h : C a k <;> simp
  · rw [if_neg (fun h => e h.1), decide_eq_false e]; simp
theorem wpart_out {C : Nat → Nat → Bool} {k i J a j : Nat} (h : C i k = false) : wpart C k i J a j = wstep C k i a j := by
  unfold wpart wstep
  rw [if_neg (fun hh => by rw [h] at hh; cases hh.2), h]; simp
structure ClAt (w wr : World) (q n m c co : Nat) (A Ao : Option Addr) (G : Nat → Nat) (S : Nat → Nat → Bool) : Prop where
  s : RAt wr (w.heap.size + 2) n m co Ao G S
  a : RelAt wr w.heap.size A n c
  r : RelAt wr (w.heap.size + 1) none 0 0
  o : RelAt wr q Ao n co
  f : Below w.heap.size w wr
variable {w wr w2 : World} {q n m c co : Nat} {A Ao : Option Addr} {G : Nat → Nat} {S : Nat → Nat → Bool}
theorem ClAt.next (h : ClAt w wr q n m c co A Ao G S) (b : Below wr.heap.size wr w2) : ClAt w w2 q n m c co A Ao G S := ⟨h.s.below b, h.a.below b, h.r.below b, h.o.below b, below_next h.f b⟩
theorem ClAt.congr {S' : Nat → Nat → Bool} (h : ClAt w wr q n m c co A Ao G S) (e : ∀ i, i < n → ∀ j, j < n → S i j = S' i j) : ClAt w wr q n m c co A Ao G S' := ⟨h.s.congr e, h.a, h.r, h.o, h.f⟩
theorem clat_put (h : ClAt w wr q n m c co A Ao G S) (hd : ∀ a b, a < n → b < n → a ≠ b → G a ≠ G b) (hn : n ≤ 512) (hm : m = (n + 63) / 64) {i j : Nat} (hi : i < n) (hj : j < n) :
    Calls Tryd.prog 59 #[.agg #[.slice Ao n co], .int .i64 i, .int .i64 j] wr fun e w' => e = .returned (.tuple #[]) ∧ ClAt w w' q n m c co A Ao G (tset S i j) := by
  have hq := h.o.lt
  have hr := h.r.lt
  refine (rat_put h.s hd hn hm hi hj (by omega)).mono ?_
  rintro e w1 ⟨rfl, h1, h2, h3⟩
  exact ⟨rfl, h1, (h2.block _ (by omega)).trans h.a, (h2.block _ (by omega)).trans h.r, (h3 q hq (relAt_ne_row h.o (h.s.s.r i hi))).trans h.o, h.f.trans (h2.mono (by omega))⟩
set_option maxRecDepth 100000 in
set_option maxHeartbeats 8000000 in
theorem rclosure_any (A : Option Addr) (n c : Nat) (R : Nat → RowD) (w : World) (h : Rel w A n R) (hv : VRel n R) : Calls Tryd.prog 54 #[.agg #[.slice A n c]] w (RelNew w n (clo n (mat R))) := by
  have HH := Lib.hid h
  have HV := Lib.hid hv
  have hn := hv.1
  have b0 : Below w.heap.size w ((w.alloc (.cells #[.slice A n c] 24)).alloc (.cells #[.slice none 0 0] 24)) := ((Below.refl _ _).alloc (Nat.le_refl _) _).alloc (by simp) _
  have rA := (relAt_new w A n c).alloc (.cells #[.slice none 0 0] 24)
  have rR := relAt_new (w.alloc (.cells #[.slice A n c] 24)) none 0 0
  have e1 : (w.alloc (.cells #[.slice A n c] 24)).heap.size = w.heap.size + 1 := by simp
  rw [e1] at rR
  have hsz : ((w.alloc (.cells #[.slice A n c] 24)).alloc (.cells #[.slice none 0 0] 24)).heap.size = w.heap.size + 2 := by simp
  have c0 := rA.c0
  obtain ⟨T, hT⟩ : ∃ T, T = mat R := ⟨_, rfl⟩
  rw [← hT]
  have HTT := Lib.hid hT
  obtain ⟨m, hm⟩ : ∃ m, m = (n + 63) / 64 := ⟨_, rfl⟩
  have HM := Lib.hid hm
  clear h hv e1 hT
  go_enter Tryd.func54, Tryd.ntmps54
  go_upto_region 2 with fail
  generalize (w.alloc (.cells #[.slice A n c] 24)).alloc (.cells #[.slice none 0 0] 24) = W at *
  have HE := Lib.hid (empty_any n W hn)
  rw [← hm] at HE
  clear hm
  go_wp2_with fail
  refine HE.out.mono ?_; rintro e w2 ⟨Ao, co, G, rfl, hS, hD, b2⟩
  rw [hsz] at hS
  have HD := Lib.hid hD
  have bN : Below w2.heap.size w2 (w2.alloc (.cells #[.slice Ao n co] 24)) := (Below.refl _ _).alloc (Nat.le_refl _) _
  have hC0 : ClAt w (w2.alloc (.cells #[.slice Ao n co] 24)) w2.heap.size n m c co A Ao G (fT T 0 0) :=
    ⟨⟨(hS.below bN).congr fun i _ => by
      rw [fT_start]
      exact words_ext (fun m k _ => by show 0 < _; omega) (fun m => tw_u64 _ _ m) (fun i => by rw [bt_tw]; simp [bt])⟩, (rA.below b2).below bN, (rR.below b2).below bN, relAt_new w2 Ao n co, below_next (below_next b0 b2) bN⟩
  clear HE hD hS rA rR b0 b2 bN c0 hsz
  go_wp2_with fail
  generalize w2.heap.size = q at *
  generalize w2.alloc (.cells #[.slice Ao n co] 24) = W3 at *
  go_loopw [5, 6] (fun i _ wr => ∃ K : Nat, K ≤ n ∧ i = .int .i64 K ∧ ClAt w wr q n m c co A Ao G (fT T K 0)) (fun i _ _ => n - (intOf i).toNat)
  case atStart => exact ⟨0, Nat.zero_le _, rfl, hC0⟩
  case round =>
    clear hC0
    obtain ⟨K, hK, rfl, hC⟩ := hrel
    by_cases hlt : K < n
    · go_wp2_with fail
      go_loopw [6] (fun j wr => ∃ D : Nat, D ≤ n ∧ j = .int .i64 D ∧ ClAt w wr q n m c co A Ao G (fT T K D)) (fun j _ => n - (intOf j).toNat)
      case atStart => exact ⟨0, Nat.zero_le _, rfl, hC⟩
      case round =>
        clear hC
        obtain ⟨D, hDn, rfl, hC⟩ := hrel
        by_cases hlt2 : D < n
        · have c0 := hC.a.c0
          have HL := Lib.hid (rless_any A n c K D R wr (HH.out.below hC.f) HV.out hlt hlt2)
          rw [← HTT.out] at HL
          obtain ⟨v, hv⟩ : ∃ v, T K D = v := ⟨_, rfl⟩
          rw [hv] at HL
          have HVV := Lib.hid hv
          clear hv
          go_wp2_with fail
          refine HL.out.mono ?_; rintro e w4 ⟨rfl, b4⟩
          have hC4 := hC.next b4
          clear c0 HL hC b4
          cases v with
          | false =>
            have hC5 := hC4.congr fun i _ j _ => fT_no HVV.out i j
            clear hC4
            go_wp2_with fail
            go_roundw
            case rel => exact ⟨D + 1, hlt2, by go_num, hC5⟩
            case measure => simp [intOf]; omega
          | true =>
            have o0 := hC4.o.c0
            have HP := Lib.hid (clat_put hC4 HD.out hn HM.out hlt hlt2)
            go_wp2_with fail
            refine HP.out.mono ?_; rintro e w5 ⟨rfl, hC5⟩
            have hC6 := hC5.congr fun i _ j _ => fT_yes HVV.out i j
            clear o0 HP hC4 hC5
            go_wp2_with fail
            go_roundw
            case rel => exact ⟨D + 1, hlt2, by go_num, hC6⟩
            case measure => simp [intOf]; omega
        · obtain rfl : D = n := by omega
          have hC5 := hC.congr fun i _ j hj => fT_next (T := T) (K := K) (a := i) hj
          clear hC
          go_wp2_with fail
          go_roundw
          case rel => exact ⟨K + 1, by omega, by go_num, hC5⟩
          case measure => simp [intOf]; omega
    · obtain rfl : K = n := by omega
      have hC1 : ClAt w wr q K m c co A Ao G (wouter T K 0) := hC.congr fun i hi j _ => fT_end hi
      clear hC
      go_wp2_with fail
      go_loopw [7, 8, 9] (fun i _ _ wr => ∃ k : Nat, k ≤ K ∧ i = .int .i64 k ∧ ClAt w wr q K m c co A Ao G (wouter T K k)) (fun i _ _ _ => K - (intOf i).toNat)
      case atStart => exact ⟨0, Nat.zero_le _, rfl, hC1⟩
      case round =>
        clear hC1
        obtain ⟨k, hk, rfl, hC⟩ := hrel
        by_cases hlt : k < K
        · obtain ⟨T1, hT1⟩ : ∃ T1, wouter T K k = T1 := ⟨_, rfl⟩
          have HN : Hid (wouter T K (k + 1) = winner T1 k K) := by rw [← hT1]; exact Lib.hid rfl
          have hC2 : ClAt w wr q K m c co A Ao G (winner T1 k 0) := by rw [hT1] at hC; exact hC
          clear hC hT1
          go_wp2_with fail
          go_loopw [8, 9] (fun i _ wr => ∃ a : Nat, a ≤ K ∧ i = .int .i64 a ∧ ClAt w wr q K m c co A Ao G (winner T1 k a)) (fun i _ _ => K - (intOf i).toNat)
          case atStart => exact ⟨0, Nat.zero_le _, rfl, hC2⟩
          case round =>
            clear hC2
            obtain ⟨a, ha, rfl, hC⟩ := hrel
            by_cases hlta : a < K
            · obtain ⟨C, hCC⟩ : ∃ C, winner T1 k a = C := ⟨_, rfl⟩
              have HNN : Hid (winner T1 k (a + 1) = wstep C k a) := by rw [← hCC]; exact Lib.hid rfl
              rw [hCC] at hC
              have hC3 := hC.congr fun i _ j _ => (wpart_start C k a i j).symm
              clear hC hCC
              go_wp2_with fail
              go_loopw [9] (fun j wr => ∃ J : Nat, J ≤ K ∧ j = .int .i64 J ∧ ClAt w wr q K m c co A Ao G (wpart C k a J)) (fun j _ => K - (intOf j).toNat)
              case atStart => exact ⟨0, Nat.zero_le _, rfl, hC3⟩
              case round =>
                clear hC3
                obtain ⟨J, hJ, rfl, hC⟩ := hrel
                have o0 := hC.o.c0
                have HL := Lib.hid (rat_less hC.s hn HM.out hlta hlt)
                rw [wpart_head] at HL
                obtain ⟨v, hv⟩ : ∃ v, C a k = v := ⟨_, rfl⟩
                rw [hv] at HL
                have HVV := Lib.hid hv
                clear hv
                go_wp2_with fail
                refine HL.out.mono ?_; rintro e w4 ⟨rfl, b4⟩
                have hC4 := hC.next b4
                clear o0 HL hC b4
                cases v with
                | false =>
                  have hC5 := hC4.congr fun i _ j _ => wpart_out (J := J) (a := i) (j := j) HVV.out
                  rw [← HNN.out] at hC5
                  clear hC4
                  go_wp2_with fail
                  go_roundw
                  case rel => exact ⟨a + 1, hlta, by go_num, hC5⟩
                  case measure => simp [intOf]; omega
                | true =>
                  by_cases hlt2 : J < K
                  · have dn : decide (J < K) = true := decide_eq_true hlt2
                    have o0 := hC4.o.c0
                    have HL2 := Lib.hid (rat_less hC4.s hn HM.out hlt hlt2)
                    rw [wpart_from] at HL2
                    obtain ⟨v, hv⟩ : ∃ v, C k J = v := ⟨_, rfl⟩
                    rw [hv] at HL2
                    have HVV2 := Lib.hid hv
                    clear hv
                    go_wp2_with fail
                    refine HL2.out.mono ?_; rintro e w5 ⟨rfl, b5⟩
                    have hC5 := hC4.next b5
                    clear o0 HL2 hC4 b5
                    cases v with
                    | false =>
                      have hC6 := hC5.congr fun i _ j _ => wpart_no (i := a) HVV2.out i j
                      clear hC5
                      go_wp2_with fail
                      go_roundw
                      case rel => exact ⟨J + 1, hlt2, by go_num, hC6⟩
                      case measure => simp [intOf]; omega
                    | true =>
                      have o0 := hC5.o.c0
                      have HP := Lib.hid (clat_put hC5 HD.out hn HM.out hlta hlt2)
                      go_wp2_with fail
                      refine HP.out.mono ?_; rintro e w6 ⟨rfl, hC6⟩
                      have hC7 := hC6.congr fun i _ j _ => wpart_yes HVV.out HVV2.out i j
                      clear o0 HP hC5 hC6
                      go_wp2_with fail
                      go_roundw
                      case rel => exact ⟨J + 1, hlt2, by go_num, hC7⟩
                      case measure => simp [intOf]; omega
                  · obtain rfl : J = K := by omega
                    have dn : decide (J < J) = false := decide_eq_false hlt2
                    have hC5 := hC4.congr fun i _ j hj => wpart_end (C := C) (k := k) (i := a) (a := i) hj
                    rw [← HNN.out] at hC5
                    clear hC4
                    go_wp2_with fail
                    go_roundw
                    case rel => exact ⟨a + 1, hlta, by go_num, hC5⟩
                    case measure => simp [intOf]; omega
            · obtain rfl : a = K := by omega
              rw [← HN.out] at hC
              go_wp2_with fail
              go_roundw
              case rel => exact ⟨k + 1, hlt, by go_num, hC⟩
              case measure => simp [intOf]; omega
        · obtain rfl : k = K := by omega
          have o0 := hC.o.c0
          have r0 := hC.r.c0
          have f0 := hC.r.free 0
          obtain ⟨S, h1, h4, h2, h3⟩ := RAt.rel ⟨(hC.s.s.farp (q := ⟨w.heap.size + 1, 0, none⟩) (by show w.heap.size + 1 < w.heap.size + 2; omega) (.slice Ao k co))⟩ hn HM.out
          have H1 := Lib.hid h1
          have H2 := Lib.hid h2
          have H3 := Lib.hid h3
          have H4 := Lib.hid (h4.mono (show w.heap.size ≤ w.heap.size + 2 by omega))
          have H5 := Lib.hid (hC.f.setCell (p := ⟨w.heap.size + 1, 0, none⟩) (by show w.heap.size ≤ w.heap.size + 1; omega) (.slice Ao k co))
          clear h1 h2 h3 h4 hC
          go_wp2_with fail
          refine bodyPost_ret (v := .agg #[.slice Ao k co]) (by simp [results, Tryd.results54, go_sem, r0]) rfl ?_
          exact ⟨Ao, co, S, rfl, H1.out, H4.out, H2.out, H3.out, H5.out⟩
end Go.Proofs.YtakjdihhbndcnaaDoor
