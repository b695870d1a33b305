/- The reference's network of a closure: its cuts, and the best closed set (mathematics). -/
import Derived.Test.YtjdceafkcakbjaaFCM
namespace Go.Proofs.Ytjdceafkcakbjaa
def rW (z : Nat → Int) (s t : Int) : Nat → List EdgeD
  | 0 => []
  | K + 1 => rW z s t K ++ [if 0 < z K then ⟨s, K, z K⟩ else ⟨K, t, -z K⟩]
def rN (M : Int) (y : Nat → Int × Int) (L : List EdgeD) : Nat → List EdgeD
  | 0 => L
  | K + 1 => rN M y L K ++ (if (y K).1 ≠ (y K).2 then [⟨(y K).1, (y K).2, M⟩] else [])
theorem rW_len (z : Nat → Int) (s t : Int) : ∀ K, (rW z s t K).length = K
  | 0 => rfl
  | K + 1 => by unfold rW; rw [List.length_append, rW_len z s t K]; rfl
theorem rN_len (M : Int) (y : Nat → Int × Int) (L : List EdgeD) : ∀ K, (rN M y L K).length ≤ L.length + K
  | 0 => Nat.le_refl _
  | K + 1 => by
    have := rN_len M y L K
    unfold rN
    rw [List.length_append]
    split <;> simp <;> omega
def most (z : Nat → Int) (K : Nat) : Int := 1 + pos z K
theorem pos_nonneg (z : Nat → Int) (K : Nat) : 0 ≤ pos z K := sumTo_nonneg fun i _ => by
  show 0 ≤ (if 0 < z i then z i else 0)
  split <;> omega
theorem pos_bound {z : Nat → Int} {K : Nat} (h : ∀ i, i < K → WOk z i) : pos z K ≤ (K : Int) * 1073741824 := sumTo_bound fun i hi => by
  have := h i hi
  unfold WOk at this
  show (if 0 < z i then z i else 0) ≤ _
  split <;> omega
theorem capE_rW (z : Nat → Int) (s t : Nat) (S : Nat → Bool) (hs : S s = true) (ht : S t = false) : ∀ K, capE S (rW z s t K) = pos z K - wgt z S K
  | 0 => rfl
  | K + 1 => by
    have ih := capE_rW z s t S hs ht K
    show capE S (rW z s t K ++ _) = (pos z K + (if 0 < z K then z K else 0)) - (wgt z S K + (if S K = true then z K else 0))
    rw [capE_app, ih]
    by_cases h1 : 0 < z K
    · rw [if_pos h1, if_pos h1]
      cases h2 : S K <;> simp [eval, hs, h2] <;> omega
    · rw [if_neg h1, if_neg h1]
      cases h2 : S K <;> simp [eval, ht, h2] <;> omega
def badM (M : Int) (y : Nat → Int × Int) (S : Nat → Bool) (K : Nat) : Int := sumTo K fun j => if S (y j).1.toNat = true ∧ S (y j).2.toNat = false then M else 0
theorem capE_rN (M : Int) (y : Nat → Int × Int) (L : List EdgeD) (S : Nat → Bool) : ∀ K, capE S (rN M y L K) = capE S L + badM M y S K
  | 0 => by show capE S L = capE S L + 0; omega
  | K + 1 => by
    have ih := capE_rN M y L S K
    show capE S (rN M y L K ++ _) = capE S L + (badM M y S K + _)
    rw [capE_app, ih]
    by_cases h1 : (y K).1 ≠ (y K).2
    · rw [if_pos h1]
      show _ + (List.map (eval S) [_]).sum = _
      simp only [List.map_cons, List.map_nil, List.sum_cons, List.sum_nil, eval]
      omega
    · rw [if_neg h1]
      have h2 : (y K).1 = (y K).2 := Classical.byContradiction h1
      have h3 : ¬ (S (y K).1.toNat = true ∧ S (y K).2.toNat = false) := fun h => by rw [h2] at h; rw [h.1] at h; cases h.2
      show _ = capE S L + (badM M y S K + (if S (y K).1.toNat = true ∧ S (y K).2.toNat = false then M else 0))
      rw [if_neg h3]; simp
theorem badM_zero {M : Int} {y : Nat → Int × Int} {S : Nat → Bool} {q : Nat} (h : Closed y q S) : badM M y S q = 0 := by
  unfold badM
  refine Eq.trans (sumTo_congr fun j hj => ?_) (sumTo_zero q)
  rw [if_neg]
  rintro ⟨h1, h2⟩
  rw [h j hj h1] at h2; cases h2
theorem badM_nonneg {M : Int} (hM : 0 ≤ M) (y : Nat → Int × Int) (S : Nat → Bool) (q : Nat) : 0 ≤ badM M y S q := sumTo_nonneg fun j _ => by
  show 0 ≤ (if _ then M else 0)
  split <;> omega
theorem badM_big {M : Int} (hM : 0 ≤ M) {y : Nat → Int × Int} {S : Nat → Bool} : ∀ {q : Nat}, ¬ Closed y q S → M ≤ badM M y S q
  | 0, h => absurd (fun j hj => absurd hj (Nat.not_lt_zero _)) h
  | q + 1, h => by
    show _ ≤ badM M y S q + (if S (y q).1.toNat = true ∧ S (y q).2.toNat = false then M else 0)
    by_cases h2 : Closed y q S
    · have h3 : S (y q).1.toNat = true ∧ S (y q).2.toNat = false := Classical.byContradiction fun hn => h fun j hj h4 => by
        by_cases e : j = q
        · subst e
          cases h5 : S (y j).2.toNat
          · exact absurd ⟨h4, h5⟩ hn
          · rfl
        · exact h2 j (by omega) h4
      rw [if_pos h3]
      have := badM_nonneg hM y S q
      omega
    · have := badM_big hM (q := q) h2
      split <;> omega
def rL (k q : Nat) (z : Nat → Int) (y : Nat → Int × Int) : List EdgeD := rN (most z k) y (rW z k ((k + 1 : Nat) : Int) k) q
def rNet (k q : Nat) (z : Nat → Int) (y : Nat → Int × Int) : Net := netOf (k + 2) (rL k q z y).length (eE (rL k q z y))
theorem mem_rW {z : Nat → Int} {s t : Int} {e : EdgeD} : ∀ {K : Nat}, e ∈ rW z s t K → ∃ i, i < K ∧ ((0 < z i ∧ e = ⟨s, i, z i⟩) ∨ (¬ 0 < z i ∧ e = ⟨i, t, -z i⟩))
  | 0, h => by simp [rW] at h
  | K + 1, h => by
    unfold rW at h
    rcases List.mem_append.1 h with h1 | h1
    · obtain ⟨i, h2, h3⟩ := mem_rW h1
      exact ⟨i, by omega, h3⟩
    · by_cases h2 : 0 < z K
      · rw [if_pos h2] at h1
        exact ⟨K, by omega, Or.inl ⟨h2, by simpa using h1⟩⟩
      · rw [if_neg h2] at h1
        exact ⟨K, by omega, Or.inr ⟨h2, by simpa using h1⟩⟩
theorem mem_rN {M : Int} {y : Nat → Int × Int} {L : List EdgeD} {e : EdgeD} : ∀ {K : Nat}, e ∈ rN M y L K → e ∈ L ∨ ∃ j, j < K ∧ (y j).1 ≠ (y j).2 ∧ e = ⟨(y j).1, (y j).2, M⟩
  | 0, h => Or.inl h
  | K + 1, h => by
    unfold rN at h
    rcases List.mem_append.1 h with h1 | h1
    · rcases mem_rN h1 with h2 | ⟨j, h2, h3⟩
      · exact Or.inl h2
      · exact Or.inr ⟨j, by omega, h3⟩
    · by_cases h2 : (y K).1 ≠ (y K).2
      · rw [if_pos h2] at h1
        exact Or.inr ⟨K, by omega, h2, by simpa using h1⟩
      · rw [if_neg h2] at h1; cases h1
theorem CArgs.rnet {k q : Nat} {z : Nat → Int} {y : Nat → Int × Int} (h : CArgs k q z y) : VNet ((k + 2 : Nat) : Int) (rL k q z y).length (eE (rL k q z y)) := by
  have hk := h.k5
  have hq := h.q1
  have h1 := rN_len (most z k) y (rW z k ((k + 1 : Nat) : Int) k) q
  have h2 := rW_len z k ((k + 1 : Nat) : Int) k
  have hm0 : 0 ≤ most z k := by unfold most; have := pos_nonneg z k; omega
  have hm1 : most z k ≤ 1125899906842624 := by unfold most; have := pos_bound (z := z) (K := k) h.z; omega
  refine ⟨by omega, by omega, by unfold rL; omega, fun i hi => ?_⟩
  rw [eE_get hi]
  rcases mem_rN (List.getElem_mem hi) with h3 | ⟨j, h3, h4, h5⟩
  · obtain ⟨a, ha, h4 | h4⟩ := mem_rW h3
    · rw [h4.2]
      have := h.z a ha
      unfold WOk at this
      exact ⟨⟨by show ((k : Nat) : Int) ≠ (a : Int); omega, by show 0 ≤ (k : Int) ∧ (k : Int) < _; omega, by show 0 ≤ (a : Int) ∧ (a : Int) < _; omega⟩, by show 0 ≤ z a; omega, by show z a ≤ _; omega⟩
    · rw [h4.2]
      have := h.z a ha
      unfold WOk at this
      exact ⟨⟨by show (a : Int) ≠ ((k + 1 : Nat) : Int); omega, by show 0 ≤ (a : Int) ∧ (a : Int) < _; omega, by show 0 ≤ ((k + 1 : Nat) : Int) ∧ ((k + 1 : Nat) : Int) < _; omega⟩, by show 0 ≤ -z a; omega, by show -z a ≤ _; omega⟩
  · rw [h5]
    have := h.y j h3
    unfold NOk at this
    exact ⟨⟨h4, by show 0 ≤ (y j).1 ∧ (y j).1 < _; omega, by show 0 ≤ (y j).2 ∧ (y j).2 < _; omega⟩, hm0, hm1⟩
theorem rNet_cap (k q : Nat) (z : Nat → Int) (y : Nat → Int × Int) (S : Nat → Bool) (hs : S k = true) (ht : S (k + 1) = false) : (rNet k q z y).capS S = pos z k - wgt z S k + badM (most z k) y S q := by
  have h1 : (rNet k q z y).capS S = capE S (rL k q z y) := rfl
  rw [h1]
  unfold rL
  rw [capE_rN, capE_rW z k (k + 1) S hs ht]
theorem CArgs.rbest {k q : Nat} {z : Nat → Int} {y : Nat → Int × Int} (h : CArgs k q z y) {R : Nat → Int} (hd : (rNet k q z y).Done k (k + 1) R) {T : Nat → Bool} (hT : ∀ v, v < k → (T v = true ↔ (rNet k q z y).Reach R k v)) :
    Best k q z y T := by
  have ok : (rNet k q z y).Ok := VNet.ok h.rnet
  classical
  obtain ⟨S, hS⟩ : ∃ S : Nat → Bool, ∀ v, S v = true ↔ (rNet k q z y).Reach R k v := ⟨fun v => decide ((rNet k q z y).Reach R k v), fun v => by simp⟩
  have hST : ∀ v, v < k → T v = S v := fun v hv => by
    have h1 := hT v hv
    have h2 := hS v
    cases h3 : T v <;> cases h4 : S v <;> simp_all
  have hs : S k = true := (hS k).2 .here
  have ht : S (k + 1) = false := by
    cases e : S (k + 1)
    · rfl
    · exact absurd ((hS _).1 e) hd.no
  have hkn : k < (rNet k q z y).n := by show k < k + 2; omega
  have hc := hd.cap ok hkn hS
  rw [rNet_cap k q z y S hs ht] at hc
  have hval := hd.flow
  have hyk : ∀ j, j < q → (y j).1.toNat < k ∧ (y j).2.toNat < k := fun j hj => by have := h.y j hj; unfold NOk at this; omega
  have ext : ∀ C : Nat → Bool, Closed y q C → (rNet k q z y).bal (flowOf R) k ≤ pos z k - wgt z C k ∧ ((rNet k q z y).bal (flowOf R) k = pos z k - wgt z C k → ∀ v, v < k → S v = true → C v = true) := fun C hC => by
    have e1 : (fun v => if v < k then C v else decide (v = k)) k = true := by simp
    have e2 : (fun v => if v < k then C v else decide (v = k)) (k + 1) = false := by
      show (if k + 1 < k then C (k + 1) else decide (k + 1 = k)) = false
      rw [if_neg (by omega)]; simp
    have hw : wgt z (fun v => if v < k then C v else decide (v = k)) k = wgt z C k := wgt_congr fun v hv => by simp [hv]
    have hcl : Closed y q (fun v => if v < k then C v else decide (v = k)) := fun j hj h1 => by
      have h2 := hyk j hj
      simp only [h2.1, h2.2, if_true] at h1 ⊢
      exact hC j hj h1
    have hcap := rNet_cap k q z y (fun v => if v < k then C v else decide (v = k)) e1 e2
    rw [hw, badM_zero hcl] at hcap
    constructor
    · have := Net.weak (S := fun v => if v < k then C v else decide (v = k)) ok hval hkn e1 e2
      omega
    · intro he v hv h1
      have h2 := hd.near (S := fun v => if v < k then C v else decide (v = k)) ok hkn e1 e2 (by rw [hcap]; omega) v ((hS v).1 h1)
      simpa [hv] using h2
  have hpos : pos z k ≤ (k : Int) * 1073741824 := sumTo_bound fun i hi => by
    have := h.z i hi
    unfold WOk at this
    show (if 0 < z i then z i else 0) ≤ _
    split <;> omega
  have hk := h.k5
  have hS0 : Closed y q S := Classical.byContradiction fun hn => by
    have h1 := badM_big (M := most z k) (by unfold most; have := pos_nonneg z k; omega) hn
    have hmo : most z k = 1 + pos z k := rfl
    have h2 := (ext (fun _ => false) (fun j hj h => by cases h)).1
    have h3 : wgt z (fun _ => false) k = 0 := by unfold wgt; exact Eq.trans (sumTo_congr fun i _ => by simp) (sumTo_zero k)
    have h4 : wgt z S k ≤ pos z k := sumTo_le fun i _ => by
      show (if S i = true then z i else 0) ≤ (if 0 < z i then z i else 0)
      split <;> split <;> omega
    omega
  rw [badM_zero hS0] at hc
  refine ⟨fun j hj h1 => ?_, fun C hC => ?_⟩
  · have h2 := hyk j hj
    rw [hST _ h2.1] at h1
    rw [hST _ h2.2]; exact hS0 j hj h1
  · obtain ⟨e1, e2⟩ := ext C hC
    rw [wgt_congr hST]
    exact ⟨by omega, fun he v hv h1 => e2 (by omega) v hv (by rw [← hST v hv]; exact h1)⟩
/- there is one best closed set -/
theorem Best.same {k q : Nat} {z : Nat → Int} {y : Nat → Int × Int} {S T : Nat → Bool} (hS : Best k q z y S) (hT : Best k q z y T) : (∀ v, v < k → S v = T v) ∧ wgt z S k = wgt z T k := by
  obtain ⟨a1, a2⟩ := hS.best T hT.cl
  obtain ⟨b1, b2⟩ := hT.best S hS.cl
  have e : wgt z S k = wgt z T k := by omega
  refine ⟨fun v hv => ?_, e⟩
  rw [Bool.eq_iff_iff]
  exact ⟨a2 e.symm v hv, b2 e v hv⟩
end Go.Proofs.Ytjdceafkcakbjaa
