/- The reference's Covers. -/
import Derived.Test.YtakjdihhbndcnaaDoorPEmp
import Derived.Test.YtakjdihhbndcnaaDoorPCvd
namespace Go.Proofs.YtakjdihhbndcnaaDoor
open Go.RowKit Go.Sort
/- the words of the first D truths -/
def tw (T : Nat → Bool) : Nat → Nat → Nat
  | 0 => fun _ => 0
  | D + 1 => if T D = true then wt (tw T D) D else tw T D
theorem tw_u64 (T : Nat → Bool) (D m : Nat) : U64 (tw T D) m := by
  induction D with
  | zero => intro k _; show 0 < _; omega
  | succ D ih =>
    show U64 (if T D = true then wt (tw T D) D else tw T D) m
    split
    · exact wt_u64 ih _
    · exact ih
theorem bt_tw (T : Nat → Bool) : ∀ (D j : Nat), bt (tw T D) j = (decide (j < D) && T j)
  | 0, j => by simp [bt, tw]
  | D + 1, j => by
    have ih := bt_tw T D j
    show bt (if T D = true then wt (tw T D) D else tw T D) j = _
    by_cases h : T D = true
    · rw [if_pos h, bt_wt, ih]
      by_cases e : j = D
      · subst e; simp [h]
      · have h1 : decide (j < D + 1) = decide (j < D) := by rw [decide_eq_decide]; omega
        rw [h1, decide_eq_false e]; simp
    · rw [if_neg h, ih]
      by_cases e : j = D
      · subst e; simp [h]
      · have h1 : decide (j < D + 1) = decide (j < D) := by rw [decide_eq_decide]; omega
        rw [h1]
theorem tw_vld (T : Nat → Bool) {n m : Nat} (hn : n ≤ 512) (hm : m = (n + 63) / 64) : Vld (n : Int) m (tw T n) :=
  ⟨by omega, by omega, by simpa using hm, fun i hi _ => by rw [bt_tw, decide_eq_false (by simp at hi; omega)]; rfl⟩
theorem BSet.rel {w : World} {base n m c : Nat} {A : Option Addr} {G : Nat → Nat} {T : Nat → Nat → Bool} (h : BSet w base (.slice A n c) n n m G (fun i => tw (T i) n)) (hn : n ≤ 512) (hm : m = (n + 63) / 64) :
    ∃ R, Rel w A n R ∧ Fresh base A n R ∧ VRel n R ∧ ∀ i, i < n → ∀ j, j < n → mat R i j = T i j := by
  refine ⟨fun i => ⟨n, some ⟨G i, 0, none⟩, m, m, tw (T i) n⟩, fun h0 => ?_, ⟨fun a ha => (h.o.lt a.block (by rw [ha]; rfl)).1, fun k hk a ha => by injection ha with ha; rw [← ha]; exact h.b k hk⟩, ⟨hn, fun i _ => ⟨rfl, tw_vld (T i) hn hm⟩⟩, fun i _ j hj => ?_⟩
  · obtain ⟨g, cap, hv, _, hlt⟩ := h.o.form h0
    injection hv with e1 _ e2
    subst e1 e2
    refine ⟨g, 0, rfl, hlt, fun k hk => ?_⟩
    obtain ⟨g1, g2⟩ := svals_get n m G hk
    rw [Nat.zero_add]
    exact ⟨(h.o.cellAt (k * 2) (by omega)).trans g1, (h.o.cellAt (k * 2 + 1) (by omega)).trans g2, row_wds (h.r k hk) (tw_u64 _ _ _)⟩
  · show bt (tw (T i) n) j = _
    rw [bt_tw, decide_eq_true hj]; rfl
def RelNew (w : World) (n : Nat) (T : Nat → Nat → Bool) (e : Ending) (w' : World) : Prop :=
  ∃ A c R, e = .returned (.agg #[.slice A n c]) ∧ Rel w' A n R ∧ Fresh w.heap.size A n R ∧ VRel n R ∧ (∀ i, i < n → ∀ j, j < n → mat R i j = T i j) ∧ Below w.heap.size w w'
theorem BSet.congr {w : World} {base k n m : Nat} {v : Value} {G : Nat → Nat} {F F' : Nat → Nat → Nat} (h : BSet w base v k n m G F) (e : ∀ i, i < k → F i = F' i) : BSet w base v k n m G F' :=
  ⟨h.o, fun i hi => by rw [← e i hi]; exact h.r i hi, h.b⟩
theorem relAt_ne_row {w : World} {q n c g m : Nat} {A : Option Addr} {f : Nat → Value} (h : RelAt w q A n c) (hr : w.rowIs g 59 m f) : q ≠ g := by
  intro e
  subst e
  obtain ⟨cs, h1, _⟩ := hr
  unfold RelAt at h
  rw [h] at h1
  injection h1 with h1
  injection h1 with _ h2 _
  exact absurd h2 (by decide)
/- the words after K rows and D truths of the next -/
def fw (T : Nat → Nat → Bool) (n K D : Nat) : Nat → Nat → Nat := fun k => if k < K then tw (T k) n else if k = K then tw (T k) D else tw (T k) 0
theorem fw_start (T : Nat → Nat → Bool) (n : Nat) : (fun _ _ => 0) = fw T n 0 0 := by
  funext k
  unfold fw
  rw [if_neg (Nat.not_lt_zero _)]
  split <;> rfl
theorem fw_next (T : Nat → Nat → Bool) (n K : Nat) : fw T n K n = fw T n (K + 1) 0 := by
  funext k
  unfold fw
  by_cases h : k < K
  · rw [if_pos h, if_pos (by omega)]
  · by_cases e : k = K
    · rw [if_neg h, if_pos e, if_pos (by omega)]
    · rw [if_neg h, if_neg e, if_neg (by omega)]
      split <;> rfl
theorem fw_yes {T : Nat → Nat → Bool} {n K D : Nat} (h : T K D = true) : (fun k => if k = K then wt (fw T n K D K) D else fw T n K D k) = fw T n K (D + 1) := by
  funext k
  unfold fw
  by_cases e : k = K
  · subst e
    rw [if_pos rfl, if_neg (Nat.lt_irrefl _), if_pos rfl, if_neg (Nat.lt_irrefl _), if_pos rfl]
    show _ = if T k D = true then wt (tw (T k) D) D else tw (T k) D
    rw [if_pos h]
  · rw [if_neg e, if_neg e, if_neg e]
theorem fw_no {T : Nat → Nat → Bool} {n K D : Nat} (h : T K D = false) : fw T n K D = fw T n K (D + 1) := by
  funext k
  unfold fw
  by_cases e : k = K
  · subst e
    rw [if_neg (Nat.lt_irrefl _), if_pos rfl, if_neg (Nat.lt_irrefl _), if_pos rfl]
    show _ = if T k D = true then wt (tw (T k) D) D else tw (T k) D
    rw [if_neg (by rw [h]; decide)]
  · rw [if_neg e, if_neg e]
theorem fw_u64 (T : Nat → Nat → Bool) (n K D m : Nat) : U64 (fw T n K D K) m := by
  unfold fw
  rw [if_neg (Nat.lt_irrefl _), if_pos rfl]
  exact tw_u64 _ _ _
set_option maxRecDepth 100000 in
set_option maxHeartbeats 4000000 in
theorem rcovers_any (A : Option Addr) (n c : Nat) (R : Nat → RowD) (w : World) (h : Rel w A n R) (hv : VRel n R) : Calls Tryd.prog 23 #[.agg #[.slice A n c]] w (RelNew w n (covB n (mat R))) := by
  have HH := Lib.hid h
  have HV := Lib.hid hv
  have hn := hv.1
  have b0 : Below w.heap.size w ((w.alloc (.cells #[.slice A n c] 24)).alloc (.cells #[.slice none 0 0] 24)) := ((Below.refl _ _).alloc (Nat.le_refl _) _).alloc (by simp) _
  have rA := (relAt_new w A n c).alloc (.cells #[.slice none 0 0] 24)
  have rR := relAt_new (w.alloc (.cells #[.slice A n c] 24)) none 0 0
  have e1 : (w.alloc (.cells #[.slice A n c] 24)).heap.size = w.heap.size + 1 := by simp
  rw [e1] at rR
  have hsz : ((w.alloc (.cells #[.slice A n c] 24)).alloc (.cells #[.slice none 0 0] 24)).heap.size = w.heap.size + 2 := by simp
  have c0 := rA.c0
  obtain ⟨T, hT⟩ : ∃ T, T = covB n (mat R) := ⟨_, rfl⟩
  rw [← hT]
  have HTT := Lib.hid hT
  obtain ⟨m, hm⟩ : ∃ m, m = (n + 63) / 64 := ⟨_, rfl⟩
  have HM := Lib.hid hm
  clear h hv e1 hT
  go_enter Tryd.func23, Tryd.ntmps23
  go_upto_region 2 with fail
  generalize (w.alloc (.cells #[.slice A n c] 24)).alloc (.cells #[.slice none 0 0] 24) = W at *
  have HE := Lib.hid (empty_any n W hn)
  rw [← hm] at HE
  clear hm
  go_wp2_with fail
  refine HE.out.mono ?_; rintro e w2 ⟨Ao, co, G, rfl, hS, hD, b2⟩
  rw [hsz, fw_start T n] at hS
  have HD := Lib.hid hD
  have bN : Below w2.heap.size w2 (w2.alloc (.cells #[.slice Ao n co] 24)) := (Below.refl _ _).alloc (Nat.le_refl _) _
  have rA3 := (rA.below b2).below bN
  have rR3 := (rR.below b2).below bN
  have B3 := below_next (below_next b0 b2) bN
  have hS3 := hS.below bN
  have rO3 := relAt_new w2 Ao n co
  clear HE hD hS rA rR b0 b2 bN c0 hsz
  go_wp2_with fail
  generalize w2.heap.size = q at *
  generalize w2.alloc (.cells #[.slice Ao n co] 24) = W3 at *
  go_loopw [5, 6] (fun i _ wr => ∃ K : Nat, K ≤ n ∧ i = .int .i64 K ∧ BSet wr (w.heap.size + 2) (.slice Ao n co) n n m G (fw T n K 0) ∧ RelAt wr w.heap.size A n c ∧ RelAt wr (w.heap.size + 1) none 0 0 ∧ RelAt wr q Ao n co ∧ Below w.heap.size w wr) (fun i _ _ => n - (intOf i).toNat)
  case atStart => exact ⟨0, Nat.zero_le _, rfl, hS3, rA3, rR3, rO3, B3⟩
  case round =>
    clear hS3 rA3 rR3 rO3 B3
    obtain ⟨K, hK, rfl, hS, hA, hR, hO, hB⟩ := hrel
    by_cases hlt : K < n
    · go_wp2_with fail
      go_loopw [6] (fun j wr => ∃ D : Nat, D ≤ n ∧ j = .int .i64 D ∧ BSet wr (w.heap.size + 2) (.slice Ao n co) n n m G (fw T n K D) ∧ RelAt wr w.heap.size A n c ∧ RelAt wr (w.heap.size + 1) none 0 0 ∧ RelAt wr q Ao n co ∧ Below w.heap.size w wr) (fun j _ => n - (intOf j).toNat)
      case atStart => exact ⟨0, Nat.zero_le _, rfl, hS, hA, hR, hO, hB⟩
      case round =>
        clear hS hA hR hO hB
        obtain ⟨D, hDn, rfl, hS, hA, hR, hO, hB⟩ := hrel
        by_cases hlt2 : D < n
        · have c0 := hA.c0
          obtain ⟨v, hv⟩ : ∃ v, T K D = v := ⟨_, rfl⟩
          have HC := Lib.hid (covd_any A n c K D R v _ (HH.out.below hB) HV.out hlt hlt2 (by rw [← HTT.out]; exact hv))
          have HVV := Lib.hid hv
          clear hv
          go_wp2_with fail
          refine HC.out.mono ?_; rintro e w4 ⟨rfl, b4⟩
          have hS4 := hS.below b4
          have hA4 := hA.below b4
          have hR4 := hR.below b4
          have hO4 := hO.below b4
          have hB4 := below_next hB b4
          clear c0 HC hS hA hR hO hB b4
          cases v with
          | false =>
            rw [fw_no HVV.out] at hS4
            go_wp2_with fail
            go_roundw
            case rel => exact ⟨D + 1, hlt2, by go_num, hS4, hA4, hR4, hO4, hB4⟩
            case measure => simp [intOf]; omega
          | true =>
            have o0 := hO4.c0
            have hlq := hO4.lt
            have hne := relAt_ne_row hO4 (hS4.r K hlt)
            have HP := Lib.hid (put_any Ao n co m K D (w.heap.size + 2) G (fw T n K D) w4 hS4 HD.out hlt hlt2 hn HM.out (fw_u64 T n K D m) (by have := hR4.lt; omega))
            rw [fw_yes HVV.out] at HP
            go_wp2_with fail
            refine HP.out.mono ?_; rintro e w5 ⟨rfl, hS5, b5, hk5⟩
            have hA5 : RelAt w5 w.heap.size A n c := (b5.block _ (by omega)).trans hA4
            have hR5 : RelAt w5 (w.heap.size + 1) none 0 0 := (b5.block _ (by omega)).trans hR4
            have hO5 : RelAt w5 q Ao n co := (hk5 q hlq hne).trans hO4
            have hB5 := hB4.trans (b5.mono (show w.heap.size ≤ w.heap.size + 2 by omega))
            clear o0 hlq hne HP hS4 hA4 hR4 hO4 hB4 b5 hk5
            go_wp2_with fail
            go_roundw
            case rel => exact ⟨D + 1, hlt2, by go_num, hS5, hA5, hR5, hO5, hB5⟩
            case measure => simp [intOf]; omega
        · obtain rfl : D = n := by omega
          rw [fw_next] at hS
          go_wp2_with fail
          go_roundw
          case rel => exact ⟨K + 1, by omega, by go_num, hS, hA, hR, hO, hB⟩
          case measure => simp [intOf]; omega
    · obtain rfl : K = n := by omega
      have o0 := hO.c0
      have r0 := hR.c0
      have f0 := hR.free 0
      have hS2 := hS.congr (F' := fun i => tw (T i) K) (fun i hi => by unfold fw; rw [if_pos hi])
      obtain ⟨S, h1, h4, h2, h3⟩ := (hS2.farp (q := ⟨w.heap.size + 1, 0, none⟩) (by show w.heap.size + 1 < w.heap.size + 2; omega) (.slice Ao K co)).rel hn HM.out
      have H1 := Lib.hid h1
      have H2 := Lib.hid h2
      have H3 := Lib.hid h3
      have H4 := Lib.hid (h4.mono (show w.heap.size ≤ w.heap.size + 2 by omega))
      have H5 := Lib.hid (hB.setCell (p := ⟨w.heap.size + 1, 0, none⟩) (by show w.heap.size ≤ w.heap.size + 1; omega) (.slice Ao K co))
      clear h1 h2 h3 h4 hS hS2 hB
      go_wp2_with fail
      refine bodyPost_ret (v := .agg #[.slice Ao K co]) (by simp [results, Tryd.results23, go_sem, r0]) rfl ?_
      exact ⟨Ao, co, S, rfl, H1.out, H4.out, H2.out, H3.out, H5.out⟩
end Go.Proofs.YtakjdihhbndcnaaDoor
