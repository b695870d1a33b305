/- Merged: RMkP, PRst, PRRs. -/
import Derived.Test.YtakjdihhbndcnaaDoorPCov
import Derived.Test.YtakjdihhbndcnaaDoorPDwn
import Derived.Test.YtakjdihhbndcnaaDoorMGb
import Derived.Test.YtakjdihhbndcnaaDoorMGa
/- Make of pairs of the call s own. -/
namespace Go.Proofs.YtakjdihhbndcnaaDoor
open Go.RowKit
theorem relOk_congr {w w' : World} {n : Nat} {T U : Nat → Nat → Bool} {e : Ending} (h : RelOk w n T e w') (he : ∀ i, i < n → ∀ j, j < n → T i j = U i j) : RelOk w n U e w' := by
  obtain ⟨A, c, R, h1, h2, h3, h4, h5, h6⟩ := h
  exact ⟨A, c, R, h1, h2, h3, h4, fun i hi j hj => (h5 i hi j hj).trans (he i hi j hj), h6⟩
theorem pvals_cons (x : Nat × Nat) (l : List (Nat × Nat)) : pvals (x :: l) = .int .i64 (x.1 : Nat) :: .int .i64 (x.2 : Nat) :: pvals l := rfl
theorem pvals_get {l : List (Nat × Nat)} : ∀ {k : Nat} {p : Nat × Nat}, l[k]? = some p → (pvals l)[k * 2]? = some (.int .i64 (p.1 : Nat)) ∧ (pvals l)[k * 2 + 1]? = some (.int .i64 (p.2 : Nat)) := by
  induction l with
  | nil => intro k p h; simp at h
  | cons x l ih =>
    intro k p h
    match k with
    | 0 =>
      have : x = p := by simpa using h
      subst this
      exact ⟨rfl, rfl⟩
    | k + 1 =>
      have h' : l[k]? = some p := by simpa using h
      obtain ⟨h1, h2⟩ := ih h'
      rw [pvals_cons, show (k + 1) * 2 = k * 2 + 1 + 1 by omega, List.getElem?_cons_succ, List.getElem?_cons_succ, List.getElem?_cons_succ, List.getElem?_cons_succ]
      exact ⟨h1, h2⟩
def zpair (l : List (Nat × Nat)) : Nat → Int × Int := fun k => (((l.getD k (0, 0)).1 : Nat), ((l.getD k (0, 0)).2 : Nat))
theorem own_prs {w : World} {base : Nat} {v : Value} {l : List (Nat × Nat)} (h : w.ownsRow base 71 2 v l.length (pvals l)) : ∃ A c, v = .slice A l.length c ∧ Prs w A l.length (zpair l) := by
  rcases h.2 with ⟨rfl, hn⟩ | ⟨g, cap, cur, rfl, hb, hg, hnc, hcm, hcs, ht⟩
  · exact ⟨none, 0, by rw [hn], fun h0 => absurd h0 (by omega)⟩
  · refine ⟨_, _, rfl, fun h0 => ⟨g, 0, rfl, lt_of_block hg, fun k hk => ?_⟩⟩
    obtain ⟨h1, h2⟩ := pvals_get (List.getElem?_eq_getElem hk)
    have e1 : zpair l k = (((l[k].1 : Nat) : Int), ((l[k].2 : Nat) : Int)) := by unfold zpair; rw [List.getD_eq_getElem?_getD, List.getElem?_eq_getElem hk]; rfl
    rw [e1, Nat.zero_add]
    exact ⟨(h.cellAt (k * 2) (by omega)).trans h1, (h.cellAt (k * 2 + 1) (by omega)).trans h2⟩
theorem zgets_mem {l : List Int} {k : Nat} (h : k < l.length) : zgets l k ∈ l := by
  unfold zgets
  rw [List.getD_eq_getElem?_getD, List.getElem?_eq_getElem h]; exact List.getElem_mem h
theorem lst_in {z : Nat → Int × Int} {m n i : Nat} (h : ∀ k, k < m → 0 ≤ (z k).2 ∧ (z k).2 < n) : InL n (lst z m i) := by
  intro k hk
  obtain ⟨q, hq, _, h2⟩ := mem_lst.1 (zgets_mem hk)
  rw [← h2]; exact h q hq
/- Make at numbers in range -/
theorem make_fine (n : Nat) (A : Option Addr) (m c : Nat) (z : Nat → Int × Int) (w : World) (hn : n ≤ 512) (h : Prs w A m z) (hm : m ≤ 1000000) (hz : ∀ k, k < m → 0 ≤ (z k).1 ∧ (z k).1 < n ∧ 0 ≤ (z k).2 ∧ (z k).2 < n) :
    Calls Tryd.prog 72 #[.int .i64 n, .slice A m c] w (RelOk w n (TwoOf z m)) :=
  (make_any n A m c z n true w hn h hm (fun k hk => ⟨(hz k hk).1, (hz k hk).2.1⟩) (Nat.le_refl _) (fun i _ => lst_in fun k hk => (hz k hk).2.2) (Or.inl ⟨rfl, rfl⟩)).mono fun e w' h => by
    rcases h with ⟨_, h⟩ | ⟨h, _⟩
    · exact h
    · cases h
/- Make of pairs in memory that are in range -/
theorem make_prs (n m : Nat) (A : Option Addr) (c : Nat) (l : List (Nat × Nat)) (w : World) (hn : n ≤ 512) (hm : m = l.length) (hP : Prs w A m (zpair l)) (hl : l.length ≤ 1000000) (hin : ∀ p, p ∈ l → p.1 < n ∧ p.2 < n) :
    Calls Tryd.prog 72 #[.int .i64 n, .slice A m c] w (RelOk w n (fun i j => l.contains (i, j))) := by
  subst hm
  have hz : ∀ k, (hk : k < l.length) → zpair l k = (((l[k].1 : Nat) : Int), ((l[k].2 : Nat) : Int)) := fun k hk => by
    unfold zpair; rw [List.getD_eq_getElem?_getD, List.getElem?_eq_getElem hk]; rfl
  refine (make_fine n A l.length c (zpair l) w hn hP hl (fun k hk => ?_)).mono fun e w' h => relOk_congr h (fun i _ j _ => bool_ext ?_)
  · rw [hz k hk]
    have := hin _ (List.getElem_mem hk)
    exact ⟨by omega, by omega, by omega, by omega⟩
  · rw [TwoOf_iff, List.contains_iff_mem]
    constructor
    · rintro ⟨k, hk, h1, h2⟩
      rw [hz k hk] at h1 h2
      have e : l[k] = (i, j) := Prod.ext (Int.ofNat.inj h1) (Int.ofNat.inj h2)
      rw [← e]; exact List.getElem_mem hk
    · intro hm
      obtain ⟨k, hk⟩ := List.mem_iff_getElem?.1 hm
      obtain ⟨hkl, hke⟩ := List.getElem?_eq_some_iff.1 hk
      exact ⟨k, hkl, by rw [hz k hkl, hke]; exact ⟨rfl, rfl⟩⟩
end Go.Proofs.YtakjdihhbndcnaaDoor
/- Package poset: Restrict. -/
namespace Go.Proofs.YtakjdihhbndcnaaDoor
open Go.RowKit Go.Sort
def rsT (T : Nat → Nat → Bool) (m : List Nat) (i j : Nat) : Bool := T (m.getD i 0) (m.getD j 0)
def prT (T : Nat → Nat → Bool) (n K D : Nat) : List (Nat × Nat) := pairsL T n K ++ (tl (T K) true D).map fun j => (K, j)
theorem prT_zero (T : Nat → Nat → Bool) (n K : Nat) : prT T n K 0 = pairsL T n K := by unfold prT tl; simp
theorem prT_end (T : Nat → Nat → Bool) (n K : Nat) : prT T n K n = pairsL T n (K + 1) := by
  unfold prT tl
  show _ = pairsL T n K ++ (rowL T n K).map fun j => (K, j)
  unfold rowL
  congr 2
  refine List.filter_congr fun x _ => ?_
  simp
theorem prT_yes {T : Nat → Nat → Bool} {n K D : Nat} (h : T K D = true) : prT T n K (D + 1) = prT T n K D ++ [(K, D)] := by
  unfold prT; rw [tl_yes h, List.map_append, List.append_assoc]; rfl
theorem prT_no {T : Nat → Nat → Bool} {n K D : Nat} (h : T K D = false) : prT T n K (D + 1) = prT T n K D := by
  unfold prT; rw [tl_no (by rw [h]; exact Bool.false_ne_true)]
theorem prT_len (T : Nat → Nat → Bool) (n K D : Nat) (hn : n ≤ 512) (hK : K ≤ n) (hD : D ≤ n) : (prT T n K D).length ≤ 300000 := by
  unfold prT
  rw [List.length_append, List.length_map]
  have h1 := pairsL_len T n K
  have h2 := tl_len (T K) true D
  have h3 : K * n ≤ 512 * 512 := Nat.mul_le_mul (by omega) hn
  omega
set_option maxRecDepth 100000 in
set_option maxHeartbeats 8000000 in
theorem restrict_on (A S : Option Addr) (n c cs : Nat) (R : Nat → RowD) (s : Nat → Nat) (m : List Nat) (w : World) (h : Rel w A n R) (hT : Tab w) (hP : POrd n R) (hS : Wds w S ((n + 63) / 64) s) (hs : Vld (n : Int) ((n + 63) / 64) s) (hm : m = (List.range n).filter (bt s)) :
    Calls Tryd.prog 35 #[.agg #[.slice A n c], .agg #[.int .i64 n, .slice S ((n + 63) / 64) cs]] w (RelOk w m.length (rsT (mat R) m)) := by
  have hn := hP.1.1
  have HP := Lib.hid hP
  have HH := Lib.hid h
  have HS := Lib.hid hS
  have HVS := Lib.hid hs
  have r0 := ((relAt_new w A n c).alloc (.cells #[.int .i64 n, .slice S ((n + 63) / 64) cs] 37)).alloc (.cells #[.slice none 0 0] 24)
  have q0 := (setAt_new (w.alloc (.cells #[.slice A n c] 24)) n S ((n + 63) / 64) cs).alloc (.cells #[.slice none 0 0] 24)
  have s0 := relAt_new ((w.alloc (.cells #[.slice A n c] 24)).alloc (.cells #[.int .i64 n, .slice S ((n + 63) / 64) cs] 37)) none 0 0
  have hz : (w.alloc (.cells #[.slice A n c] 24)).heap.size = w.heap.size + 1 := by simp
  have hz2 : ((w.alloc (.cells #[.slice A n c] 24)).alloc (.cells #[.int .i64 n, .slice S ((n + 63) / 64) cs] 37)).heap.size = w.heap.size + 2 := by simp
  rw [hz] at q0
  rw [hz2] at s0
  have b0 : Below w.heap.size w (((w.alloc (.cells #[.slice A n c] 24)).alloc (.cells #[.int .i64 n, .slice S ((n + 63) / 64) cs] 37)).alloc (.cells #[.slice none 0 0] 24)) := (((Below.refl _ _).alloc (Nat.le_refl _) _).alloc (by simp) _).alloc (by simp; omega) _
  obtain ⟨mw, hmw⟩ : ∃ mw, (n + 63) / 64 = mw := ⟨_, rfl⟩
  rw [hmw] at HS HVS r0 q0 s0 b0
  rw [hmw]
  have hmm : Hid (∀ x, x ∈ m → x < n) := Lib.hid fun x hx => by rw [hm, List.mem_filter, List.mem_range] at hx; exact hx.1
  have hml : m.length ≤ n := by
    rw [hm]
    have := List.length_filter_le (bt s) (List.range n)
    simpa using this
  have HMM := Lib.hid hm
  clear hz hz2 hP h hS hs hmw hm
  obtain ⟨k, hk⟩ : ∃ k, k = m.length := ⟨_, rfl⟩
  have HK := Lib.hid hk
  rw [← hk]
  clear hk
  obtain ⟨T, hTT⟩ : ∃ T, T = rsT (mat R) m := ⟨_, rfl⟩
  rw [← hTT]
  have HTT : Hid (∀ i j, T i j = mat R (m.getD i 0) (m.getD j 0)) := Lib.hid fun i j => by rw [hTT]; rfl
  clear hTT
  go_enter Tryd.func35, Tryd.ntmps35
  go_upto_region 1 with fail
  generalize ((w.alloc (.cells #[.slice A n c] 24)).alloc (.cells #[.int .i64 n, .slice S mw cs] 37)).alloc (.cells #[.slice none 0 0] 24) = W at *
  have c0 := r0.c0
  go_wp2_with fail
  refine (pvalid_any A n c R true W (HH.out.below b0) (by omega) (hT.below b0) ⟨fun _ => HP.out, fun _ => rfl⟩).mono ?_; rintro e w2 ⟨rfl, b2⟩
  have r2 := r0.below b2
  have q2 := q0.below b2
  have s2 := s0.below b2
  have B2 := below_next b0 b2
  clear r0 q0 s0 c0 b0 b2
  have c0 := r2.c0
  have d0 := q2.c0
  have d1 := q2.c1
  go_wp2_with fail
  refine (isSetOf_yes A S n c mw cs s w2 (HS.out.below B2) HVS.out).mono ?_; rintro e w3 ⟨rfl, b3⟩
  have r3 := r2.below b3
  have q3 := q2.below b3
  have s3 := s2.below b3
  have B3 := below_next B2 b3
  clear r2 q2 s2 c0 d0 d1 B2 b3
  have d0 := q3.c0
  have d1 := q3.c1
  have HM := Lib.hid (pmembers_any n ⟨n, S, mw, cs, s⟩ w3 (HS.out.below B3) ⟨rfl, HVS.out⟩ (hT.below B3))
  unfold RowOut at HM
  rw [show (List.range n).filter (bt (RowD.mk n S mw cs s).f) = m from HMM.out.symm] at HM
  go_wp2_with fail
  refine HM.out.mono ?_; rintro e w5 ⟨vm, rfl, hown, b4⟩
  have r5 := r3.below b4
  have s5 := s3.below b4
  have B5 := below_next B3 b4
  obtain ⟨Am, cm, rfl, hIm, _⟩ := own_ints hown
  have HI5 := Lib.hid hIm
  have hw5 : w.heap.size + 2 < w5.heap.size := s5.lt
  clear r3 q3 s3 d0 d1 B3 b4 HM hown hIm
  rw [← HK.out] at hml HI5 ⊢
  go_wp2_with fail
  go_loopw [7, 24] (fun v i wr => ∃ K : Nat, K ≤ k ∧ i = .int .i64 K ∧ wr.ownsRow w5.heap.size 71 2 v (pairsL T k K).length (pvals (pairsL T k K)) ∧ Below w5.heap.size w5 wr) (fun _ i _ => k - (intOf i).toNat)
  case atStart => exact ⟨0, Nat.zero_le _, rfl, World.ownsRow_nil _ _ _ _, Below.refl _ _⟩
  case round =>
    obtain ⟨K, hK, rfl, hown, hB⟩ := hrel
    by_cases hlt : K < k
    · have hwrap : IntKind.i64.wrap ((K : Int) + 1) = (K : Int) + 1 := IntWalk.i64_in _ (by omega)
      rw [← prT_zero T k K] at hown
      go_wp2_with fail
      go_loopw [7, 29] (fun v i wr => ∃ D : Nat, D ≤ k ∧ i = .int .i64 D ∧ wr.ownsRow w5.heap.size 71 2 v (prT T k K D).length (pvals (prT T k K D)) ∧ Below w5.heap.size w5 wr) (fun _ i _ => k - (intOf i).toNat)
      case atStart => exact ⟨0, Nat.zero_le _, rfl, hown, hB⟩
      case round =>
        clear hown hB
        obtain ⟨D, hD, rfl, hown, hB⟩ := hrel
        by_cases hlt2 : D < k
        · have hwrap2 : IntKind.i64.wrap ((D : Int) + 1) = (D : Int) + 1 := IntWalk.i64_in _ (by omega)
          obtain ⟨bm, om, rfl, hbm, hcm⟩ := (HI5.out.below hB) (by omega)
          have z0 := hcm K hlt
          have z1 := hcm D hlt2
          unfold gets at z0 z1
          have hKn : m.getD K 0 < n := by rw [getD_lt (by rw [← HK.out]; exact hlt)]; exact hmm.out _ (List.getElem_mem _)
          have hDn : m.getD D 0 < n := by rw [getD_lt (by rw [← HK.out]; exact hlt2)]; exact hmm.out _ (List.getElem_mem _)
          obtain ⟨v, hv⟩ : ∃ v, T K D = v := ⟨_, rfl⟩
          have hvm : mat R (m.getD K 0) (m.getD D 0) = v := by rw [← HTT.out]; exact hv
          have HVV := Lib.hid hv
          generalize m.getD K 0 = a at *
          generalize m.getD D 0 = b at *
          have hr := r5.below hB
          have k0 := cell_regrown hr.c0
          obtain ⟨ba, oa, rfl, hbl, hcz⟩ := (HH.out.below (below_next B5 hB)) (by omega)
          obtain ⟨x0, x1, xw⟩ := hcz a hKn
          have hvk := HP.out.1.2 a hKn
          rw [hvk.1] at x0
          have k1 := cell_regrown x0
          have k2 := cell_regrown x1
          have k3 := cell_regrown z0
          have k4 := cell_regrown z1
          have CA := Lib.hid (fun d os => Calls.regrown_of (has_in n b (R a).A (R a).l (R a).c (R a).f v (grow (redrawn wr d) os) (xw.below (below_regrown wr d os)) hvk.2 hDn hvm))
          have hpl := prT_len T k K D (by omega) hK (by omega)
          have hown0 := hown
          clear hcm z0 z1 hv hvm hr hcz xw hvk x0 x1
          generalize (R a).A = A1 at *
          generalize (R a).l = l1 at *
          generalize (R a).c = c1 at *
          go_upto_region 11 with fail
          refine wp_region_quiet_below (by kernel_rfl) (by kernel_rfl) ?_
          repeat (first | go_big_quiet_step (first | with_reducible exact CA.out _ _) | quiet_step (first | with_reducible exact CA.out _ _))
          refine wpQuiet_nil ?_
          intro _ hw'
          obtain ⟨⟨dq, osq⟩, hw''⟩ := hw'
          subst hw''
          have bq := below_regrown wr dq osq
          have hown2 := own_below hown0 bq
          have hB2 := below_next hB bq
          clear k0 k1 k2 k3 k4 CA hown hown0 bq hB
          generalize grow (redrawn wr dq) osq = wr at *
          cases v with
          | false =>
            have hst : Hid (prT T k K (D + 1) = prT T k K D) := Lib.hid (prT_no HVV.out)
            go_wp2_with fail
            go_roundw
            case rel => exact ⟨D + 1, hlt2, by go_num, by rw [hst.out]; exact hown2, hB2⟩
            case measure => simp [intOf]; omega
          | true =>
            have hst : Hid (prT T k K (D + 1) = prT T k K D ++ [(K, D)]) := Lib.hid (prT_yes HVV.out)
            generalize prT T k K D = P2 at *
            have hbase : w5.heap.size ≤ wr.heap.size := hB2.size
            go_wp2_with (at_builtin; refine append_pair rfl (.tmp 45) (.tmp 49) rfl w5.heap.size _ P2 K D K D wr rfl hown2 rfl (by omega) hbase rfl rfl ?_; intro v' w8 hown8 hg8)
            have bP : Below wr.heap.size wr (wr.alloc (.cells #[.int .i64 (K : Int), .int .i64 (D : Int)] 71)) := (Below.refl _ _).alloc (Nat.le_refl _) _
            have hownA := own_below hown2 bP
            have B8 := grown_below2 (below_next hB2 bP) hownA (Nat.le_refl _) hg8
            go_roundw
            case rel => exact ⟨D + 1, hlt2, by go_num, by rw [hst.out]; exact hown8, B8⟩
            case measure => simp [intOf]; omega
        · obtain rfl : D = k := by omega
          rw [prT_end] at hown
          go_wp2_with fail
          go_roundw
          case rel => exact ⟨K + 1, hlt, by go_num, hown, hB⟩
          case measure => simp [intOf]; omega
    · obtain rfl : K = k := by omega
      obtain ⟨Ap, cp, rfl, hPr⟩ := own_prs hown
      have hpl : (pairsL T K K).length ≤ 300000 := by
        have h1 := pairsL_len T K K
        have h2 : K * K ≤ 512 * 512 := Nat.mul_le_mul (by omega) (by omega)
        omega
      have HMk := Lib.hid (make_prs K (pairsL T K K).length Ap cp (pairsL T K K) wr (by omega) rfl hPr (by omega) (fun p hp => by
        obtain ⟨h1, h2, _⟩ := mem_pairsL.1 (show (p.1, p.2) ∈ pairsL T K K from hp)
        exact ⟨h1, h2⟩))
      unfold RelOk at HMk
      have hct : Hid (∀ i, i < K → ∀ j, j < K → (pairsL T K K).contains (i, j) = T i j) := Lib.hid fun i hi j hj => by
        rw [Bool.eq_iff_iff, List.contains_iff_mem, mem_pairsL]
        exact ⟨fun h => h.2.2, fun h => ⟨hi, hj, h⟩⟩
      generalize pairsL T K K = P at *
      clear hPr hown
      go_wp2_with fail
      refine HMk.out.mono ?_; rintro e w8 ⟨Ao, co, Ro, rfl, hRo, hFo, hVo, hMo, b8⟩
      have s8 := (s5.below hB).below b8
      have B8 := below_next (below_next B5 hB) b8
      have k0 := s8.c0
      have f0 := s8.free 0
      have s9 := relAt_put2 (A' := Ao) (n' := K) (c' := co) s8
      have j0 := s9.c0
      have hwr : w5.heap.size ≤ wr.heap.size := hB.size
      have HRo := Lib.hid (hRo.far_new (q := ⟨w.heap.size + 2, 0, none⟩) hFo (by show w.heap.size + 2 < wr.heap.size; omega) (.slice Ao K co))
      have HFo := Lib.hid (hFo.mono (show w.heap.size ≤ wr.heap.size by omega))
      have HVo := Lib.hid hVo
      have HMo := Lib.hid hMo
      have B9 := Lib.hid (B8.setCell (p := ⟨w.heap.size + 2, 0, none⟩) (by show w.heap.size ≤ w.heap.size + 2; omega) (.slice Ao K co))
      clear hRo hFo hVo hMo b8 B8 hB s8 s9 HMk
      go_wp2_with fail
      refine bodyPost_ret (v := .tuple #[.agg #[.slice Ao K co], .int .i64 0]) (by simp [results, Tryd.results35, go_sem, j0]) rfl ?_
      exact ⟨Ao, co, Ro, rfl, HRo.out, HFo.out, HVo.out, fun i hi j hj => (HMo.out i hi j hj).trans (hct.out i hi j hj), B9.out⟩
end Go.Proofs.YtakjdihhbndcnaaDoor
/- The reference's Restrict. -/
namespace Go.Proofs.YtakjdihhbndcnaaDoor
open Go.RowKit Go.Sort
/- the first K rows of a table, and D truths of the next -/
def gT (T : Nat → Nat → Bool) (K D : Nat) : Nat → Nat → Bool := fun a b => T a b && (decide (a < K) || (decide (a = K) && decide (b < D)))
theorem gT_start (T : Nat → Nat → Bool) : gT T 0 0 = fun _ _ => false := by funext a b; unfold gT; simp
theorem gT_next {T : Nat → Nat → Bool} {n K a b : Nat} (hb : b < n) : gT T K n a b = gT T (K + 1) 0 a b := by
  unfold gT
  rw [decide_eq_true hb]
  by_cases h : a < K
  · rw [decide_eq_true h, decide_eq_true (by omega : a < K + 1)]; simp
  · by_cases e : a = K
    · rw [decide_eq_true e, decide_eq_true (by omega : a < K + 1)]; simp
    · rw [decide_eq_false h, decide_eq_false e, decide_eq_false (by omega : ¬ a < K + 1)]; simp
theorem gT_yes {T : Nat → Nat → Bool} {K D : Nat} (h : T K D = true) (a b : Nat) : tset (gT T K D) K D a b = gT T K (D + 1) a b := by
  unfold tset gT
  by_cases e : a = K
  · subst e
    by_cases e2 : b = D
    · subst e2; rw [h]; simp
    · have : decide (b < D + 1) = decide (b < D) := by rw [decide_eq_decide]; omega
      rw [this, decide_eq_false e2]; simp
  · rw [decide_eq_false e]; simp
theorem gT_no {T : Nat → Nat → Bool} {K D : Nat} (h : T K D = false) (a b : Nat) : gT T K D a b = gT T K (D + 1) a b := by
  unfold gT
  by_cases e : a = K
  · subst e
    by_cases e2 : b = D
    · subst e2; rw [h]; simp
    · have : decide (b < D + 1) = decide (b < D) := by rw [decide_eq_decide]; omega
      rw [this]
  · rw [decide_eq_false e]; simp
theorem gT_end {T : Nat → Nat → Bool} {n a b : Nat} (ha : a < n) : gT T n 0 a b = T a b := by unfold gT; rw [decide_eq_true ha]; simp
structure RsAt (w w0 wr : World) (q k mk co : Nat) (Ao : Option Addr) (G : Nat → Nat) (S : Nat → Nat → Bool) : Prop where
  s : RAt wr w0.heap.size k mk co Ao G S
  o : RelAt wr q Ao k co
  f : Below w0.heap.size w0 wr
variable {w w0 wr w2 : World} {q k mk co : Nat} {Ao : Option Addr} {G : Nat → Nat} {S : Nat → Nat → Bool}
theorem RsAt.next (h : RsAt w w0 wr q k mk co Ao G S) (b : Below wr.heap.size wr w2) : RsAt w w0 w2 q k mk co Ao G S := ⟨h.s.below b, h.o.below b, below_next h.f b⟩
theorem RsAt.congr {S' : Nat → Nat → Bool} (h : RsAt w w0 wr q k mk co Ao G S) (e : ∀ i, i < k → ∀ j, j < k → S i j = S' i j) : RsAt w w0 wr q k mk co Ao G S' := ⟨h.s.congr e, h.o, h.f⟩
theorem rsat_put (h : RsAt w w0 wr q k mk co Ao G S) (hd : ∀ a b, a < k → b < k → a ≠ b → G a ≠ G b) (hn : k ≤ 512) (hm : mk = (k + 63) / 64) {i j : Nat} (hi : i < k) (hj : j < k) :
    Calls Tryd.prog 59 #[.agg #[.slice Ao k co], .int .i64 i, .int .i64 j] wr fun e w' => e = .returned (.tuple #[]) ∧ RsAt w w0 w' q k mk co Ao G (tset S i j) := by
  have hq := h.o.lt
  refine (rat_put h.s hd hn hm hi hj h.f.size).mono ?_
  rintro e w1 ⟨rfl, h1, h2, h3⟩
  exact ⟨rfl, h1, (h3 q hq (relAt_ne_row h.o (h.s.s.r i hi))).trans h.o, h.f.trans h2⟩
set_option maxRecDepth 100000 in
set_option maxHeartbeats 8000000 in
theorem rrestrict_any (A S : Option Addr) (n c cs : Nat) (R : Nat → RowD) (s : Nat → Nat) (m : List Nat) (w : World) (h : Rel w A n R) (hv : VRel n R) (hS : Wds w S ((n + 63) / 64) s) (hm : m = mem s n) :
    Calls Tryd.prog 39 #[.agg #[.slice A n c], .agg #[.int .i64 n, .slice S ((n + 63) / 64) cs]] w (RelNew w m.length (rsT (mat R) m)) := by
  have hn := hv.1
  have HV := Lib.hid hv
  have HH := Lib.hid h
  have HS := Lib.hid hS
  have r0 := ((relAt_new w A n c).alloc (.cells #[.int .i64 n, .slice S ((n + 63) / 64) cs] 37)).alloc (.cells #[.slice none 0 0] 24)
  have q0 := (setAt_new (w.alloc (.cells #[.slice A n c] 24)) n S ((n + 63) / 64) cs).alloc (.cells #[.slice none 0 0] 24)
  have s0 := relAt_new ((w.alloc (.cells #[.slice A n c] 24)).alloc (.cells #[.int .i64 n, .slice S ((n + 63) / 64) cs] 37)) none 0 0
  have hz : (w.alloc (.cells #[.slice A n c] 24)).heap.size = w.heap.size + 1 := by simp
  have hz2 : ((w.alloc (.cells #[.slice A n c] 24)).alloc (.cells #[.int .i64 n, .slice S ((n + 63) / 64) cs] 37)).heap.size = w.heap.size + 2 := by simp
  rw [hz] at q0
  rw [hz2] at s0
  have b0 : Below w.heap.size w (((w.alloc (.cells #[.slice A n c] 24)).alloc (.cells #[.int .i64 n, .slice S ((n + 63) / 64) cs] 37)).alloc (.cells #[.slice none 0 0] 24)) := (((Below.refl _ _).alloc (Nat.le_refl _) _).alloc (by simp) _).alloc (by simp; omega) _
  have hN64 : n ≤ 64 * ((n + 63) / 64) := by omega
  have hl9 : (n + 63) / 64 ≤ 9 := by omega
  generalize (n + 63) / 64 = mw at *
  have hmm : Hid (∀ x, x ∈ m → x < n) := Lib.hid fun x hx => by rw [hm] at hx; exact (mem_in.1 hx).1
  have hml : m.length ≤ n := by rw [hm]; exact mem_len_le s n
  have HMM := Lib.hid hm
  clear hz hz2 h hS hm hv
  obtain ⟨k, hk⟩ : ∃ k, k = m.length := ⟨_, rfl⟩
  have HK := Lib.hid hk
  rw [← hk]
  clear hk
  obtain ⟨T, hTT⟩ : ∃ T, T = rsT (mat R) m := ⟨_, rfl⟩
  rw [← hTT]
  have HTT : Hid (∀ i j, T i j = mat R (m.getD i 0) (m.getD j 0)) := Lib.hid fun i j => by rw [hTT]; rfl
  clear hTT
  go_enter Tryd.func39, Tryd.ntmps39
  go_upto_region 1 with fail
  generalize ((w.alloc (.cells #[.slice A n c] 24)).alloc (.cells #[.int .i64 n, .slice S mw cs] 37)).alloc (.cells #[.slice none 0 0] 24) = W at *
  have d0 := q0.c0
  have d1 := q0.c1
  have HM := Lib.hid (refMembers_any n S mw cs s W (HS.out.below b0) hN64 hl9)
  rw [← HMM.out] at HM
  unfold RowOut at HM
  go_wp2_with fail
  refine HM.out.mono ?_; rintro e w4 ⟨vm, rfl, hown, b4⟩
  have r4 := r0.below b4
  have s4 := s0.below b4
  have B4 := below_next b0 b4
  obtain ⟨Am, cm, rfl, hIm, _⟩ := own_ints hown
  have HIm := Lib.hid hIm
  have hw4 : w.heap.size + 2 < w4.heap.size := s4.lt
  clear r0 q0 s0 d0 d1 b0 b4 HM hown hIm
  rw [← HK.out] at hml HIm ⊢
  obtain ⟨mk, hmk⟩ : ∃ mk, mk = (k + 63) / 64 := ⟨_, rfl⟩
  have HMK := Lib.hid hmk
  have HE := Lib.hid (empty_any k w4 (by omega))
  rw [← hmk] at HE
  unfold EmptyEnd at HE
  clear hmk
  go_wp2_with fail
  refine HE.out.mono ?_; rintro e w5 ⟨Ao, co, G, rfl, hBS, hD, b5⟩
  have HD := Lib.hid hD
  have bN : Below w5.heap.size w5 (w5.alloc (.cells #[.slice Ao k co] 24)) := (Below.refl _ _).alloc (Nat.le_refl _) _
  have hC0 : RsAt w w4 (w5.alloc (.cells #[.slice Ao k co] 24)) w5.heap.size k mk co Ao G (gT T 0 0) :=
    ⟨⟨(hBS.below bN).congr fun i _ => by
      rw [gT_start]
      exact words_ext (fun m k _ => by show 0 < _; omega) (fun m => tw_u64 _ _ m) (fun i => by rw [bt_tw]; simp [bt])⟩, relAt_new w5 Ao k co, below_next b5 bN⟩
  clear HE hBS hD b5 bN
  go_upto_region 3 with fail
  generalize w5.heap.size = q at *
  generalize w5.alloc (.cells #[.slice Ao k co] 24) = w6 at *
  go_wp2_with fail
  go_loopw [7, 8] (fun i _ wr => ∃ K : Nat, K ≤ k ∧ i = .int .i64 K ∧ RsAt w w4 wr q k mk co Ao G (gT T K 0)) (fun i _ _ => k - (intOf i).toNat)
  case atStart => exact ⟨0, Nat.zero_le _, rfl, hC0⟩
  case round =>
    clear hC0
    obtain ⟨K, hK, rfl, hC⟩ := hrel
    by_cases hlt : K < k
    · go_wp2_with fail
      go_loopw [8] (fun j wr => ∃ D : Nat, D ≤ k ∧ j = .int .i64 D ∧ RsAt w w4 wr q k mk co Ao G (gT T K D)) (fun j _ => k - (intOf j).toNat)
      case atStart => exact ⟨0, Nat.zero_le _, rfl, hC⟩
      case round =>
        clear hC
        obtain ⟨D, hD, rfl, hC⟩ := hrel
        by_cases hlt2 : D < k
        · obtain ⟨bm, om, rfl, hbm, hcm⟩ := (HIm.out.below hC.f) (by omega)
          have z0 := hcm K hlt
          have z1 := hcm D hlt2
          unfold gets at z0 z1
          have hKn : m.getD K 0 < n := by rw [getD_lt (by rw [← HK.out]; exact hlt)]; exact hmm.out _ (List.getElem_mem _)
          have hDn : m.getD D 0 < n := by rw [getD_lt (by rw [← HK.out]; exact hlt2)]; exact hmm.out _ (List.getElem_mem _)
          obtain ⟨v, hv⟩ : ∃ v, T K D = v := ⟨_, rfl⟩
          have hvm : mat R (m.getD K 0) (m.getD D 0) = v := by rw [← HTT.out]; exact hv
          have HVV := Lib.hid hv
          generalize m.getD K 0 = a at *
          generalize m.getD D 0 = b at *
          have hr := r4.below hC.f
          have k0 := cell_regrown hr.c0
          have k3 := cell_regrown z0
          have k4 := cell_regrown z1
          have CA := Lib.hid (fun d os => Calls.regrown_of (rless_any A n c a b R (grow (redrawn wr d) os) ((HH.out.below (below_next B4 hC.f)).below (below_regrown wr d os)) HV.out hKn hDn))
          rw [hvm] at CA
          clear hcm z0 z1 hv hvm hr
          go_wp2_with fail
          refine wp_region_quiet_below (by kernel_rfl) (by kernel_rfl) ?_
          repeat (first | go_big_quiet_step (first | with_reducible exact CA.out _ _) | quiet_step (first | with_reducible exact CA.out _ _))
          refine wpQuiet_nil ?_
          intro _ hw'
          obtain ⟨⟨dq, osq⟩, hw''⟩ := hw'
          subst hw''
          have hC4 := hC.next (below_regrown wr dq osq)
          clear k0 k3 k4 CA hC
          generalize grow (redrawn wr dq) osq = wr at *
          cases v with
          | false =>
            have hC5 := hC4.congr fun i _ j _ => gT_no HVV.out i j
            clear hC4
            go_wp2_with fail
            go_roundw
            case rel => exact ⟨D + 1, hlt2, by go_num, hC5⟩
            case measure => simp [intOf]; omega
          | true =>
            have o0 := hC4.o.c0
            have HP := Lib.hid (rsat_put hC4 HD.out (by omega) HMK.out hlt hlt2)
            go_wp2_with fail
            refine HP.out.mono ?_; rintro e w9 ⟨rfl, hC5⟩
            have hC6 := hC5.congr fun i _ j _ => gT_yes HVV.out i j
            clear o0 HP hC4 hC5
            go_wp2_with fail
            go_roundw
            case rel => exact ⟨D + 1, hlt2, by go_num, hC6⟩
            case measure => simp [intOf]; omega
        · obtain rfl : D = k := by omega
          have hC5 := hC.congr fun i _ j hj => gT_next (T := T) (K := K) (a := i) hj
          clear hC
          go_wp2_with fail
          go_roundw
          case rel => exact ⟨K + 1, by omega, by go_num, hC5⟩
          case measure => simp [intOf]; omega
    · obtain rfl : K = k := by omega
      have hC1 : RsAt w w4 wr q K mk co Ao G T := hC.congr fun i hi j _ => gT_end hi
      have o0 := hC1.o.c0
      have s8 := s4.below hC1.f
      have k0 := s8.c0
      have f0 := s8.free 0
      have s9 := relAt_put2 (A' := Ao) (n' := K) (c' := co) s8
      have j0 := s9.c0
      obtain ⟨S2, h1, h4, h2, h3⟩ := RAt.rel ⟨(hC1.s.s.farp (q := ⟨w.heap.size + 2, 0, none⟩) (by show w.heap.size + 2 < w4.heap.size; omega) (.slice Ao K co))⟩ (by omega) HMK.out
      have H1 := Lib.hid h1
      have H2 := Lib.hid h2
      have H3 := Lib.hid h3
      have H4 := Lib.hid (h4.mono (show w.heap.size ≤ w4.heap.size by omega))
      have H5 := Lib.hid ((below_next B4 hC1.f).setCell (p := ⟨w.heap.size + 2, 0, none⟩) (by show w.heap.size ≤ w.heap.size + 2; omega) (.slice Ao K co))
      clear h1 h2 h3 h4 hC hC1 s8 s9
      go_wp2_with fail
      refine bodyPost_ret (v := .agg #[.slice Ao K co]) (by simp [results, Tryd.results39, go_sem, j0]) rfl ?_
      exact ⟨Ao, co, S2, rfl, H1.out, H4.out, H2.out, H3.out, H5.out⟩
end Go.Proofs.YtakjdihhbndcnaaDoor
