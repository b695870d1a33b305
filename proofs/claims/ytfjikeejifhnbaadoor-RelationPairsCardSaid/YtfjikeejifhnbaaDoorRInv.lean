/- The contract of relation.Inverse. -/
import Derived.Test.YtfjikeejifhnbaaDoorRMak3
namespace Go.Proofs.YtfjikeejifhnbaaDoor
open Go.RowKit
theorem pvals_cons (x : Nat × Nat) (l : List (Nat × Nat)) : pvals (x :: l) = .int .i64 (x.1 : Nat) :: .int .i64 (x.2 : Nat) :: pvals l := rfl
theorem pvals_get {l : List (Nat × Nat)} : ∀ {k : Nat} {p : Nat × Nat}, l[k]? = some p → (pvals l)[k * 2]? = some (.int .i64 (p.1 : Nat)) ∧ (pvals l)[k * 2 + 1]? = some (.int .i64 (p.2 : Nat)) := by
  induction l with
  | nil => intro k p h; simp at h
  | cons x l ih =>
    intro k p h
    match k with
    | 0 =>
      have : x = p := by simpa using h
      subst this
      exact ⟨rfl, rfl⟩
    | k + 1 =>
      have h' : l[k]? = some p := by simpa using h
      obtain ⟨h1, h2⟩ := ih h'
      rw [pvals_cons, show (k + 1) * 2 = k * 2 + 1 + 1 by omega, List.getElem?_cons_succ, List.getElem?_cons_succ, List.getElem?_cons_succ, List.getElem?_cons_succ]
      exact ⟨h1, h2⟩
theorem pvals_set {l : List (Nat × Nat)} : ∀ {k : Nat} (p : Nat × Nat), k < l.length → pvals (l.set k p) = ((pvals l).set (k * 2) (.int .i64 (p.1 : Nat))).set (k * 2 + 1) (.int .i64 (p.2 : Nat)) := by
  induction l with
  | nil => intro k p h; simp at h
  | cons x l ih =>
    intro k p h
    match k with
    | 0 => rfl
    | k + 1 =>
      rw [List.set_cons_succ, pvals_cons, pvals_cons, ih p (by simpa using h), show (k + 1) * 2 = k * 2 + 1 + 1 by omega, List.set_cons_succ, List.set_cons_succ, List.set_cons_succ, List.set_cons_succ]
/- the first K pairs turned -/
def swp (l : List (Nat × Nat)) (K : Nat) : List (Nat × Nat) := (l.take K).map Prod.swap ++ l.drop K
theorem swp_len (l : List (Nat × Nat)) (K : Nat) (h : K ≤ l.length) : (swp l K).length = l.length := by
  unfold swp
  rw [List.length_append, List.length_map, List.length_take, List.length_drop]; omega
theorem swp_get {l : List (Nat × Nat)} {K : Nat} (h : K < l.length) : (swp l K)[K]? = some l[K] := by
  unfold swp
  rw [List.getElem?_append_right (by rw [List.length_map, List.length_take]; omega), List.length_map, List.length_take, Nat.min_eq_left (by omega), Nat.sub_self, List.getElem?_drop, Nat.add_zero, List.getElem?_eq_getElem h]
theorem swp_step {l : List (Nat × Nat)} {K : Nat} (h : K < l.length) : swp l (K + 1) = (swp l K).set K (l[K].2, l[K].1) := by
  unfold swp
  rw [List.take_succ_eq_append_getElem h, List.map_append, List.set_append_right _ _ (by rw [List.length_map, List.length_take]; omega), List.length_map, List.length_take, Nat.min_eq_left (by omega), Nat.sub_self, List.append_assoc]
  congr 1
  rw [List.drop_eq_getElem_cons h, List.set_cons_zero]; rfl
theorem swp_all (l : List (Nat × Nat)) : swp l l.length = l.map Prod.swap := by
  unfold swp
  rw [List.take_length, List.drop_length, List.append_nil]
def zpair (l : List (Nat × Nat)) : Nat → Int × Int := fun k => (((l.getD k (0, 0)).1 : Nat), ((l.getD k (0, 0)).2 : Nat))
theorem own_prs {w : World} {base : Nat} {v : Value} {l : List (Nat × Nat)} (h : w.ownsRow base 38 2 v l.length (pvals l)) : ∃ A c, v = .slice A l.length c ∧ Prs w A l.length (zpair l) := by
  rcases h.2 with ⟨rfl, hn⟩ | ⟨g, cap, cur, rfl, hb, hg, hnc, hcm, hcs, ht⟩
  · exact ⟨none, 0, by rw [hn], fun h0 => absurd h0 (by omega)⟩
  · refine ⟨_, _, rfl, fun h0 => ⟨g, 0, rfl, lt_of_block hg, fun k hk => ?_⟩⟩
    obtain ⟨h1, h2⟩ := pvals_get (List.getElem?_eq_getElem hk)
    have e1 : zpair l k = (((l[k].1 : Nat) : Int), ((l[k].2 : Nat) : Int)) := by unfold zpair; rw [List.getD_eq_getElem?_getD, List.getElem?_eq_getElem hk]; rfl
    rw [e1, Nat.zero_add]
    exact ⟨(h.cellAt (k * 2) (by omega)).trans h1, (h.cellAt (k * 2 + 1) (by omega)).trans h2⟩
theorem inv_pairs {T : Nat → Nat → Bool} {n : Nat} : ∀ i, i < n → ∀ j, j < n → TwoOf (zpair (swp (pairsL T n n) (pairsL T n n).length)) (pairsL T n n).length i j = inv T i j := by
  intro i hi j hj
  apply bool_ext
  rw [TwoOf_iff, swp_all]
  show _ ↔ T j i = true
  have hiff : T j i = true ↔ (j, i) ∈ pairsL T n n := by rw [mem_pairsL]; exact ⟨fun h => ⟨hj, hi, h⟩, fun h => h.2.2⟩
  rw [hiff]
  constructor
  · rintro ⟨k, hk, h1, h2⟩
    have e1 : zpair ((pairsL T n n).map Prod.swap) k = ((((pairsL T n n)[k].2 : Nat) : Int), (((pairsL T n n)[k].1 : Nat) : Int)) := by
      unfold zpair; rw [List.getD_eq_getElem?_getD, List.getElem?_map, List.getElem?_eq_getElem hk]; rfl
    rw [e1] at h1 h2
    have h1' : (pairsL T n n)[k].2 = i := Int.ofNat.inj h1
    have h2' : (pairsL T n n)[k].1 = j := Int.ofNat.inj h2
    have : (pairsL T n n)[k] = (j, i) := Prod.ext h2' h1'
    rw [← this]; exact List.getElem_mem hk
  · intro hm
    obtain ⟨k, hk⟩ := List.mem_iff_getElem?.1 hm
    obtain ⟨hkl, hke⟩ := List.getElem?_eq_some_iff.1 hk
    refine ⟨k, hkl, ?_⟩
    have e1 : zpair ((pairsL T n n).map Prod.swap) k = ((((pairsL T n n)[k].2 : Nat) : Int), (((pairsL T n n)[k].1 : Nat) : Int)) := by
      unfold zpair; rw [List.getD_eq_getElem?_getD, List.getElem?_map, List.getElem?_eq_getElem hkl]; rfl
    rw [e1, hke]; exact ⟨rfl, rfl⟩
theorem inv_range {T : Nat → Nat → Bool} {n : Nat} : ∀ k, k < (pairsL T n n).length → 0 ≤ (zpair (swp (pairsL T n n) (pairsL T n n).length) k).1 ∧ (zpair (swp (pairsL T n n) (pairsL T n n).length) k).1 < n ∧ 0 ≤ (zpair (swp (pairsL T n n) (pairsL T n n).length) k).2 ∧ (zpair (swp (pairsL T n n) (pairsL T n n).length) k).2 < n := by
  intro k hk
  rw [swp_all]
  have e1 : zpair ((pairsL T n n).map Prod.swap) k = ((((pairsL T n n)[k].2 : Nat) : Int), (((pairsL T n n)[k].1 : Nat) : Int)) := by
    unfold zpair; rw [List.getD_eq_getElem?_getD, List.getElem?_map, List.getElem?_eq_getElem hk]; rfl
  rw [e1]
  have hm : ((pairsL T n n)[k].1, (pairsL T n n)[k].2) ∈ pairsL T n n := List.getElem_mem hk
  rw [mem_pairsL] at hm
  obtain ⟨h1, h2, _⟩ := hm
  exact ⟨by omega, by omega, by omega, by omega⟩
theorem zgets_mem {l : List Int} {k : Nat} (h : k < l.length) : zgets l k ∈ l := by
  unfold zgets
  rw [List.getD_eq_getElem?_getD, List.getElem?_eq_getElem h]; exact List.getElem_mem h
theorem lst_in {z : Nat → Int × Int} {m n i : Nat} (h : ∀ k, k < m → 0 ≤ (z k).2 ∧ (z k).2 < n) : InL n (lst z m i) := by
  intro k hk
  obtain ⟨q, hq, _, h2⟩ := mem_lst.1 (zgets_mem hk)
  rw [← h2]; exact h q hq
theorem inverse_err (A : Option Addr) (n c : Nat) (R : Nat → RowD) (w : World) (h : Rel w A n R) (hn : n ≤ 1000000) (hv : ¬ VRel n R) :
    Calls Tryd.prog 21 #[.agg #[.slice A n c]] w (RelErr w 1) := by
  have HH := Lib.hid h; clear h
  have HV := Lib.hid hv; clear hv
  have b0 : Below w.heap.size w ((w.alloc (.cells #[.slice A n c] 24)).alloc (.cells #[.slice none 0 0] 24)) := ((Below.refl _ _).alloc (Nat.le_refl _) _).alloc (by simp) _
  have r0 := (relAt_new w A n c).alloc (.cells #[.slice none 0 0] 24)
  have r1 := relAt_new (w.alloc (.cells #[.slice A n c] 24)) none 0 0
  have hs : (w.alloc (.cells #[.slice A n c] 24)).heap.size = w.heap.size + 1 := by simp
  rw [hs] at r1
  clear hs
  have c0 := r0.c0
  go_enter Tryd.func21, Tryd.ntmps21
  go_wp2_with fail
  refine (pairs_err A n c R _ (HH.out.below b0) hn HV.out).mono ?_; rintro e w2 ⟨rfl, b2⟩
  have r2 := r1.below b2
  have B2 := below_next b0 b2
  have d0 := r2.c0
  have f0 := r2.free 0
  go_wp2_with fail
  refine bodyPost_ret (v := .tuple #[.agg #[.slice none 0 0], .int .i64 1]) (by simp [results, Tryd.results21, go_sem, d0]) rfl ?_
  exact ⟨rfl, B2.setCell (p := ⟨w.heap.size + 1, 0, none⟩) (by show w.heap.size ≤ w.heap.size + 1; omega) _⟩
set_option maxHeartbeats 4000000 in
theorem inverse_ok (A : Option Addr) (n c : Nat) (R : Nat → RowD) (w : World) (h : Rel w A n R) (hv : VRel n R) (hT : Tab w) :
    Calls Tryd.prog 21 #[.agg #[.slice A n c]] w (RelOk w n (inv (mat R))) := by
  have HH := Lib.hid h; clear h
  have hn := hv.1
  have HV := Lib.hid hv; clear hv
  have hnn : n * n ≤ 512 * 512 := Nat.mul_le_mul hn hn
  have hlen := pairsL_len (mat R) n n
  have hIP := Lib.hid (@inv_pairs (mat R) n)
  have hIR := Lib.hid (@inv_range (mat R) n)
  have b0 : Below w.heap.size w ((w.alloc (.cells #[.slice A n c] 24)).alloc (.cells #[.slice none 0 0] 24)) := ((Below.refl _ _).alloc (Nat.le_refl _) _).alloc (by simp) _
  have r0 := (relAt_new w A n c).alloc (.cells #[.slice none 0 0] 24)
  have r1 := relAt_new (w.alloc (.cells #[.slice A n c] 24)) none 0 0
  have hs : (w.alloc (.cells #[.slice A n c] 24)).heap.size = w.heap.size + 1 := by simp
  rw [hs] at r1
  clear hs
  have c0 := r0.c0
  go_enter Tryd.func21, Tryd.ntmps21
  go_wp2_with fail
  refine (pairs_ok A n c R _ (HH.out.below b0) HV.out (hT.below b0)).mono ?_; rintro e w2 ⟨v, rfl, hown, b2⟩
  generalize pairsL (mat R) n n = l at *
  have hll : l.length ≤ 1000000 := by omega
  have r2 := r0.below b2
  have q2 := r1.below b2
  have B2 := below_next b0 b2
  replace hown := own_mono (base' := w.heap.size + 2) hown (by simp)
  clear r0 r1 b0 b2 c0
  obtain ⟨Av, cv, rfl, _⟩ := own_prs hown
  go_wp2_with fail
  go_loopw [6, 7, 19] (fun _ _ i wr => ∃ K : Nat, K ≤ l.length ∧ i = .int .i64 K ∧ wr.ownsRow (w.heap.size + 2) 38 2 (.slice Av l.length cv) l.length (pvals (swp l K)) ∧ RelAt wr w.heap.size A n c ∧ RelAt wr (w.heap.size + 1) none 0 0 ∧ Below w.heap.size w wr) (fun _ _ i _ => l.length - (intOf i).toNat)
  case atStart => exact ⟨0, by omega, rfl, by simpa [swp] using hown, r2, q2, B2⟩
  case round =>
    clear hown r2 q2 B2
    obtain ⟨K, hK, rfl, hown, hr, hq, hB⟩ := hrel
    by_cases hlt : K < l.length
    · obtain ⟨g, cap, hv, hg, hgl⟩ := hown.form (by omega)
      injection hv with e1 _ e2
      subst e1 e2
      obtain ⟨h1, h2⟩ := pvals_get (swp_get hlt)
      have hsl := swp_len l K hK
      have hpl := pvals_len (swp l K)
      have x0 := (hown.cellAt (K * 2) (by omega)).trans h1
      have x1 := (hown.cellAt (K * 2 + 1) (by omega)).trans h2
      have hst : Hid (pvals (swp l (K + 1)) = ((pvals (swp l K)).set (K * 2) (.int .i64 (l[K].2 : Nat))).set (K * 2 + 1) (.int .i64 (l[K].1 : Nat))) := by
        show _ = _
        rw [swp_step hlt, pvals_set _ (by omega)]
      have bA : Below wr.heap.size wr (wr.alloc (.cells #[.int .i64 ((l[K].1 : Nat) : Int), .int .i64 ((l[K].2 : Nat) : Int)] 38)) := (Below.refl _ _).alloc (Nat.le_refl _) _
      have hown2 := own_below hown bA
      have hr2 := hr.below bA
      have hq2 := hq.below bA
      have B2 := below_next hB bA
      have y0 := (hown2.cellAt (K * 2) (by omega)).trans h1
      have y1 := (hown2.cellAt (K * 2 + 1) (by omega)).trans h2
      clear h1 h2
      have f0 := hown2.frozenAt (K * 2)
      have f1 := hown2.frozenAt (K * 2 + 1)
      have hown3 := ((hown2.stored (K * 2) (.int .i64 ((l[K].2 : Nat) : Int))).1.stored (K * 2 + 1) (.int .i64 ((l[K].1 : Nat) : Int))).1
      rw [← hst.out] at hown3
      have hr3 := (hr2.far (q := ⟨g, K * 2, none⟩) (by show w.heap.size ≠ g; omega) (.int .i64 ((l[K].2 : Nat) : Int))).far (q := ⟨g, K * 2 + 1, none⟩) (by show w.heap.size ≠ g; omega) (.int .i64 ((l[K].1 : Nat) : Int))
      have hq3 := (hq2.far (q := ⟨g, K * 2, none⟩) (by show w.heap.size + 1 ≠ g; omega) (.int .i64 ((l[K].2 : Nat) : Int))).far (q := ⟨g, K * 2 + 1, none⟩) (by show w.heap.size + 1 ≠ g; omega) (.int .i64 ((l[K].1 : Nat) : Int))
      have B3 := (B2.setCell (p := ⟨g, K * 2, none⟩) (by show w.heap.size ≤ g; omega) (.int .i64 ((l[K].2 : Nat) : Int))).setCell (p := ⟨g, K * 2 + 1, none⟩) (by show w.heap.size ≤ g; omega) (.int .i64 ((l[K].1 : Nat) : Int))
      clear hown2 hr2 hq2 B2 bA hown hr hq hB hst
      generalize l[K].1 = i at *
      generalize l[K].2 = j at *
      clear hsl hpl hgl
      go_wp2_with fail
      go_roundw
      case rel => exact ⟨K + 1, by omega, by go_num, hown3, hr3, hq3, B3⟩
      case measure => simp [intOf]; omega
    · obtain rfl : K = l.length := by omega
      have hsl := swp_len l l.length (Nat.le_refl _)
      have hown' : wr.ownsRow (w.heap.size + 2) 38 2 (.slice Av l.length cv) (swp l l.length).length (pvals (swp l l.length)) := by rw [hsl]; exact hown
      obtain ⟨A2, c2, e1, hP⟩ := own_prs hown'
      clear hown'
      rw [hsl] at e1 hP
      injection e1 with e1 _ e2
      subst e1 e2
      have hMk : Hid (∀ (w' : World), Prs w' Av l.length (zpair (swp l l.length)) → Calls Tryd.prog 11 #[.int .i64 n, .slice Av l.length cv] w' (MakeEnd w' n (zpair (swp l l.length)) l.length true)) := fun w' h' =>
        make_any n Av l.length cv (zpair (swp l l.length)) n true w' hn h' hll (fun k hk => ⟨(hIR.out k hk).1, (hIR.out k hk).2.1⟩) (Nat.le_refl _) (fun i _ => lst_in fun k hk => (hIR.out k hk).2.2) (Or.inl ⟨rfl, rfl⟩)
      have c0 := hr.c0
      have HP := Lib.hid hP
      have hpq : w.heap.size + 1 < wr.heap.size := hq.lt
      clear hP hown hsl
      go_wp2_with fail
      refine (hMk.out _ HP.out).mono ?_; rintro e w3 he
      rcases he with ⟨_, A3, c3, R3, rfl, hR3, hF3, hV3, hM3, b3⟩ | ⟨hf, _⟩
      · have q3 := hq.below b3
        have B3 := (below_next hB b3).setCell (p := ⟨w.heap.size + 1, 0, none⟩) (by show w.heap.size ≤ w.heap.size + 1; omega) (.slice A3 n c3)
        have d0 := q3.c0
        have f0 := q3.free 0
        have HV3 := Lib.hid hV3
        have HM3 := Lib.hid hM3
        have HR3 : Hid (Rel (w3.setCell ⟨w.heap.size + 1, 0, none⟩ (.slice A3 n c3)) A3 n R3) := hR3.far_new hF3 (by show w.heap.size + 1 < wr.heap.size; exact hpq) _
        clear hV3 hM3 hB b3 hR3
        go_wp2_with fail
        refine bodyPost_ret (v := .tuple #[.agg #[.slice A3 n c3], .int .i64 0]) (by simp [results, Tryd.results21, go_sem, d0]) rfl ?_
        exact ⟨A3, c3, R3, rfl, HR3.out, hF3.mono (by omega), HV3.out, fun i hi j hj => (HM3.out i hi j hj).trans (hIP.out i hi j hj), B3⟩
      · cases hf
end Go.Proofs.YtfjikeejifhnbaaDoor
