/- What augmenting gives (mathematics). -/
import Derived.Test.YtmafnncpdccfdaaKMa
namespace Go.Proofs.Ytmafnncpdccfdaa
theorem prl_has {L : Nat → Int} {a : Nat} : ∀ {K}, a < K → L a ≠ -1 → ∃ j, j < (prl L K).length ∧ pE (prl L K) j = ((a : Int), L a)
  | 0, h, _ => absurd h (Nat.not_lt_zero _)
  | K + 1, h, hL => by
    by_cases e : a = K
    · subst e
      have e2 : prl L (a + 1) = prl L a ++ [((a : Int), L a)] := by show prl L a ++ _ = _; rw [if_neg hL]
      have hl : (prl L a).length < (prl L a ++ [((a : Int), L a)]).length := by rw [List.length_append, List.length_singleton]; omega
      rw [e2]
      exact ⟨_, hl, by rw [pE_get hl]; simp⟩
    · obtain ⟨j, hj, h2⟩ := prl_has (K := K) (by omega) hL
      have e2 : prl L (K + 1) = prl L K ++ (if L K = -1 then [] else [((K : Int), L K)]) := rfl
      rw [e2]
      have hl : j < (prl L K ++ (if L K = -1 then [] else [((K : Int), L K)])).length := by rw [List.length_append]; omega
      exact ⟨j, hl, by rw [← h2, pE_get hl, pE_get hj, List.getElem_append_left hj]⟩
section
variable {n m k : Nat} {E : Nat → Int × Int} (hv : VG n m k E) {Z : Nat → Int × Int}
include hv
theorem mL_cnt : ∀ {p}, MatP E k Z p → cntT (fun a => decide (mL Z p a = -1)) n + p = n
  | 0, _ => by have := cntT_not (fun _ => false) n; have h2 := cntT_none n; have h3 : cntT (fun a => decide (mL Z 0 a = -1)) n = cntT (fun _ => (false == false)) n := rfl; omega
  | p + 1, h => by
    have ih := mL_cnt (h.mono (Nat.le_succ p))
    have hin := h.in_ hv (Nat.lt_succ_self p)
    have hlt : (Z p).1.toNat < n := by have := hin.1; omega
    have h0 : mL Z p (Z p).1.toNat = -1 := Classical.byContradiction fun hc => by
      obtain ⟨i, hi, he⟩ := (mL_has Z _ p).1 hc
      have hi2 := h.in_ hv (Nat.lt_succ_of_lt hi)
      exact (h.2 i p hi (Nat.lt_succ_self p)).1 (by have := hin.1.1; have := hi2.1.1; omega)
    have hs : (fun a => decide (mL Z (p + 1) a = -1)) (Z p).1.toNat = false := by
      show decide (put (mL Z p) (Z p).1.toNat (((Z p).2.toNat : Nat) : Int) (Z p).1.toNat = -1) = false
      rw [put_same]; exact decide_eq_false (by omega)
    have hm := cntT_mark (s := fun a => decide (mL Z (p + 1) a = -1)) hs hlt
    have e : mark (fun a => decide (mL Z (p + 1) a = -1)) (Z p).1.toNat = fun a => decide (mL Z p a = -1) := funext fun a => by
      unfold mark
      by_cases ha : a = (Z p).1.toNat
      · rw [if_pos ha, ha, h0]; rfl
      · rw [if_neg ha]
        show decide (put (mL Z p) (Z p).1.toNat (((Z p).2.toNat : Nat) : Int) a = -1) = _
        rw [put_ne _ _ ha]
    rw [e] at hm
    omega
theorem mL_prl {p : Nat} (h : MatP E k Z p) : (prl (mL Z p) n).length = p := by
  have h1 := mL_cnt hv h
  have h2 := prl_cnt (mL Z p) n
  omega
structure AugF (n k p : Nat) (E Z : Nat → Int × Int) (L : Nat → Int) : Prop where
  mat : MatP E k (pE (prl L n)) (prl L n).length
  len : (prl L n).length = p + 1
  left : ∀ i, i < p → ∃ j, j < (prl L n).length ∧ (pE (prl L n) j).1 = (Z i).1
  right : ∀ i, i < p → ∃ j, j < (prl L n).length ∧ (pE (prl L n) j).2 = (Z i).2
theorem aug_yes {p a : Nat} (h : MatP E k Z p) (hM : Mat n m (nbs E k) ⟨fun _ => false, mL Z p, mR Z p⟩) (ha : a < n) (hL : mL Z p a = -1) (hy : (vis (nbs E k) (m + 1) a ⟨fun _ => false, mL Z p, mR Z p⟩).1 = true) :
    AugF n k p E Z (vis (nbs E k) (m + 1) a ⟨fun _ => false, mL Z p, mR Z p⟩).2.L := by
  have hres := (vis_res (n := n) (vg_nb hv) (m + 1) a ⟨fun _ => false, mL Z p, mR Z p⟩ hM ha (.inl hL) (by show un (fun _ => false) m < _; rw [un_none]; omega)).yes hy
  generalize (vis (nbs E k) (m + 1) a ⟨fun _ => false, mL Z p, mR Z p⟩).2 = G at *
  have hG : Mat n m (nbs E k) G := by
    have := hres.par
    rw [show (⟨fun _ => false, mL Z p, mR Z p⟩ : Gr).L a = -1 from hL] at this
    exact this
  have ml : ∀ a', G.L a' ≠ -1 ↔ (mL Z p a' ≠ -1 ∨ a' = a) := hres.ml
  obtain ⟨t, ht, _, mr⟩ := hres.mr
  have mr : ∀ b, G.R b ≠ -1 ↔ (mR Z p b ≠ -1 ∨ b = t) := mr
  refine ⟨max_mat hv hG, ?_, fun i hi => ?_, fun i hi => ?_⟩
  · have h1 := mL_cnt hv h
    have h2 := prl_cnt G.L n
    have hs : (fun a => decide (G.L a = -1)) a = false := decide_eq_false ((ml a).2 (.inr rfl))
    have hm := cntT_mark (s := fun a => decide (G.L a = -1)) hs ha
    have e : mark (fun a => decide (G.L a = -1)) a = fun a => decide (mL Z p a = -1) := funext fun a' => by
      unfold mark
      by_cases e : a' = a
      · rw [if_pos e, e, hL]; rfl
      · rw [if_neg e]
        by_cases h0 : mL Z p a' = -1
        · rw [decide_eq_true h0]
          exact decide_eq_true (Classical.byContradiction fun hc => ((ml a').1 hc).elim (fun h => h h0) e)
        · rw [decide_eq_false h0]
          exact decide_eq_false ((ml a').2 (.inl h0))
    rw [e] at hm
    omega
  · have hin := h.in_ hv hi
    have h0 : G.L (Z i).1.toNat ≠ -1 := (ml _).2 (.inl ((mL_has Z _ p).2 ⟨i, hi, rfl⟩))
    obtain ⟨j, hj, e⟩ := prl_has (K := n) (by have := hin.1; omega) h0
    refine ⟨j, hj, ?_⟩
    rw [e]
    have := hin.1.1
    show (((Z i).1.toNat : Nat) : Int) = _
    omega
  · have hin := h.in_ hv hi
    have hbm : (Z i).2.toNat < m := by have := hin.2; omega
    have h0 : G.R (Z i).2.toNat ≠ -1 := (mr _).2 (.inl ((mR_has Z _ p).2 ⟨i, hi, rfl⟩))
    obtain ⟨a', ha', hR, hL'⟩ := (Mat.r hG _ hbm).resolve_left h0
    obtain ⟨j, hj, e⟩ := prl_has (L := G.L) (K := n) ha' (by omega)
    refine ⟨j, hj, ?_⟩
    rw [e]
    have := hin.2.1
    show G.L a' = _
    omega
theorem aug_no {p : Nat} (h : MatP E k Z p) (hM : Mat n m (nbs E k) ⟨fun _ => false, mL Z p, mR Z p⟩) (hno : ∀ a, a < n → mL Z p a = -1 → (vis (nbs E k) (m + 1) a ⟨fun _ => false, mL Z p, mR Z p⟩).1 = false) :
    ∀ Z' p', MatP E k Z' p' → p' ≤ p := by
  have hf : ∀ a, a < n → mL Z p a = -1 → Failed m (nbs E k) ⟨fun _ => false, mL Z p, mR Z p⟩ (vis (nbs E k) (m + 1) a ⟨fun _ => false, mL Z p, mR Z p⟩).2 a := fun a ha hL =>
    (vis_res (n := n) (vg_nb hv) (m + 1) a ⟨fun _ => false, mL Z p, mR Z p⟩ hM ha (.inl hL) (by show un (fun _ => false) m < _; rw [un_none]; omega)).no (hno a ha hL)
  have hI : RsI n m (nbs E k) ⟨fun _ => false, mL Z p, mR Z p⟩ n := by
    refine rsI (vg_nb hv) hM (C := fun b => ∃ a, a < n ∧ mL Z p a = -1 ∧ (vis (nbs E k) (m + 1) a ⟨fun _ => false, mL Z p, mR Z p⟩).2.seen b = true) (fun b hb => ?_) (fun a ha hL b hb => ⟨a, ha, hL, (hf a ha hL).all b hb⟩) n (Nat.le_refl _)
    obtain ⟨a, ha, hL, hs⟩ := hb
    obtain ⟨h1, h2, h3⟩ := ((hf a ha hL).new b hs).resolve_left Bool.false_ne_true
    exact ⟨h1, h2, fun c hc => ⟨a, ha, hL, h3 c hc⟩⟩
  intro Z' p' h'
  have := mat_max hv hM hI h'
  have h2 := mL_prl hv h
  have h3 : (prl (⟨fun _ => false, mL Z p, mR Z p⟩ : Gr).L n).length = p := h2
  omega
end
end Go.Proofs.Ytmafnncpdccfdaa
