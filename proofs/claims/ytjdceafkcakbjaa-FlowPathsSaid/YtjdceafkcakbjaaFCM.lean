/- Mathematics of closed sets: the network of a closure, its cuts, and the best closed set. -/
import Derived.Test.YtjdceafkcakbjaaFCErr
namespace Go.Proofs.Ytjdceafkcakbjaa
def eval (S : Nat → Bool) (e : EdgeD) : Int := if S e.f.toNat = true ∧ S e.t.toNat = false then e.c else 0
def capE (S : Nat → Bool) (L : List EdgeD) : Int := sumTo L.length fun i => eval S (eE L i)
theorem capE_app (S : Nat → Bool) (L M : List EdgeD) : capE S (L ++ M) = capE S L + (M.map (eval S)).sum := by
  induction M generalizing L with
  | nil => simp
  | cons e M ih =>
    have h1 : L ++ e :: M = (L ++ [e]) ++ M := by simp
    rw [h1, ih]
    have h2 : capE S (L ++ [e]) = capE S L + eval S e := by
      unfold capE
      rw [List.length_append, List.length_singleton]
      show sumTo L.length _ + eval S (eE (L ++ [e]) L.length) = _
      congr 1
      · refine sumTo_congr fun i hi => ?_
        show eval S (eE (L ++ [e]) i) = eval S (eE L i)
        unfold eE
        rw [List.getD_eq_getElem?_getD, List.getD_eq_getElem?_getD, List.getElem?_append_left hi]
      · unfold eE; rw [List.getD_eq_getElem?_getD, List.getElem?_append_right (Nat.le_refl _)]; simp
    rw [h2, List.map_cons, List.sum_cons]; omega
def wgt (z : Nat → Int) (S : Nat → Bool) (K : Nat) : Int := sumTo K fun i => if S i = true then z i else 0
def pos (z : Nat → Int) (K : Nat) : Int := sumTo K fun i => if 0 < z i then z i else 0
theorem capE_W (z : Nat → Int) (s t : Nat) (S : Nat → Bool) (hs : S s = true) (ht : S t = false) : ∀ K, capE S (cW z s t K) = pos z K - wgt z S K
  | 0 => rfl
  | K + 1 => by
    have ih := capE_W z s t S hs ht K
    show capE S (cW z s t K ++ _) = (pos z K + (if 0 < z K then z K else 0)) - (wgt z S K + (if S K = true then z K else 0))
    rw [capE_app, ih]
    by_cases h1 : 0 < z K
    · rw [if_pos h1, if_pos h1]
      cases h2 : S K <;> simp [eval, hs, h2] <;> omega
    · rw [if_neg h1, if_neg h1]
      by_cases h3 : z K < 0
      · rw [if_pos h3]
        cases h2 : S K <;> simp [eval, ht, h2] <;> omega
      · rw [if_neg h3]
        have : z K = 0 := by omega
        cases h2 : S K <;> simp [this]
def bad (y : Nat → Int × Int) (S : Nat → Bool) (K : Nat) : Int := sumTo K fun j => if S (y j).1.toNat = true ∧ S (y j).2.toNat = false then 1125899906842624 else 0
theorem capE_N (y : Nat → Int × Int) (L : List EdgeD) (S : Nat → Bool) : ∀ K, capE S (cN y L K) = capE S L + bad y S K
  | 0 => by show capE S L = capE S L + 0; omega
  | K + 1 => by
    have ih := capE_N y L S K
    show capE S (cN y L K ++ _) = capE S L + (bad y S K + _)
    rw [capE_app, ih]
    by_cases h1 : (y K).1 ≠ (y K).2
    · rw [if_pos h1]
      show _ + (List.map (eval S) [_]).sum = _
      simp only [List.map_cons, List.map_nil, List.sum_cons, List.sum_nil, eval]
      omega
    · rw [if_neg h1]
      have h2 : (y K).1 = (y K).2 := Classical.byContradiction h1
      have h3 : ¬ (S (y K).1.toNat = true ∧ S (y K).2.toNat = false) := fun h => by rw [h2] at h; rw [h.1] at h; cases h.2
      show _ = capE S L + (bad y S K + (if S (y K).1.toNat = true ∧ S (y K).2.toNat = false then 1125899906842624 else 0))
      rw [if_neg h3]; simp
def Closed (y : Nat → Int × Int) (q : Nat) (S : Nat → Bool) : Prop := ∀ j, j < q → S (y j).1.toNat = true → S (y j).2.toNat = true
theorem bad_zero {y : Nat → Int × Int} {S : Nat → Bool} {q : Nat} (h : Closed y q S) : bad y S q = 0 := by
  unfold bad
  refine Eq.trans (sumTo_congr fun j hj => ?_) (sumTo_zero q)
  rw [if_neg]
  rintro ⟨h1, h2⟩
  rw [h j hj h1] at h2; cases h2
theorem bad_nonneg (y : Nat → Int × Int) (S : Nat → Bool) (q : Nat) : 0 ≤ bad y S q := sumTo_nonneg fun j _ => by
  show 0 ≤ (if _ then (1125899906842624 : Int) else 0)
  split <;> omega
theorem bad_big {y : Nat → Int × Int} {S : Nat → Bool} : ∀ {q : Nat}, ¬ Closed y q S → 1125899906842624 ≤ bad y S q
  | 0, h => absurd (fun j hj => absurd hj (Nat.not_lt_zero _)) h
  | q + 1, h => by
    show _ ≤ bad y S q + (if S (y q).1.toNat = true ∧ S (y q).2.toNat = false then 1125899906842624 else 0)
    by_cases h2 : Closed y q S
    · have h3 : S (y q).1.toNat = true ∧ S (y q).2.toNat = false := Classical.byContradiction fun hn => h fun j hj h4 => by
        by_cases e : j = q
        · subst e
          cases h5 : S (y j).2.toNat
          · exact absurd ⟨h4, h5⟩ hn
          · rfl
        · exact h2 j (by omega) h4
      rw [if_pos h3]
      have := bad_nonneg y S q
      omega
    · have := bad_big (q := q) h2
      split <;> omega
/- the network -/
def cL (k q : Nat) (z : Nat → Int) (y : Nat → Int × Int) : List EdgeD := cN y (cW z k ((k + 1 : Nat) : Int) k) q
def cNet (k q : Nat) (z : Nat → Int) (y : Nat → Int × Int) : Net := netOf (k + 2) (cL k q z y).length (eE (cL k q z y))
theorem mem_cW {z : Nat → Int} {s t : Int} {e : EdgeD} : ∀ {K : Nat}, e ∈ cW z s t K → ∃ i, i < K ∧ ((0 < z i ∧ e = ⟨s, i, z i⟩) ∨ (z i < 0 ∧ e = ⟨i, t, -z i⟩))
  | 0, h => by simp [cW] at h
  | K + 1, h => by
    unfold cW at h
    rcases List.mem_append.1 h with h1 | h1
    · obtain ⟨i, h2, h3⟩ := mem_cW h1
      exact ⟨i, by omega, h3⟩
    · by_cases h2 : 0 < z K
      · rw [if_pos h2] at h1
        exact ⟨K, by omega, Or.inl ⟨h2, by simpa using h1⟩⟩
      · rw [if_neg h2] at h1
        by_cases h3 : z K < 0
        · rw [if_pos h3] at h1
          exact ⟨K, by omega, Or.inr ⟨h3, by simpa using h1⟩⟩
        · rw [if_neg h3] at h1; cases h1
theorem mem_cN {y : Nat → Int × Int} {L : List EdgeD} {e : EdgeD} : ∀ {K : Nat}, e ∈ cN y L K → e ∈ L ∨ ∃ j, j < K ∧ (y j).1 ≠ (y j).2 ∧ e = ⟨(y j).1, (y j).2, 1125899906842624⟩
  | 0, h => Or.inl h
  | K + 1, h => by
    unfold cN at h
    rcases List.mem_append.1 h with h1 | h1
    · rcases mem_cN h1 with h2 | ⟨j, h2, h3⟩
      · exact Or.inl h2
      · exact Or.inr ⟨j, by omega, h3⟩
    · by_cases h2 : (y K).1 ≠ (y K).2
      · rw [if_pos h2] at h1
        exact Or.inr ⟨K, by omega, h2, by simpa using h1⟩
      · rw [if_neg h2] at h1; cases h1
theorem CArgs.net {k q : Nat} {z : Nat → Int} {y : Nat → Int × Int} (h : CArgs k q z y) : VNet ((k + 2 : Nat) : Int) (cL k q z y).length (eE (cL k q z y)) := by
  have hk := h.k5
  have hq := h.q1
  have h1 := cN_len y (cW z k ((k + 1 : Nat) : Int) k) q
  have h2 := cW_len z k ((k + 1 : Nat) : Int) k
  refine ⟨by omega, by omega, by unfold cL; omega, fun i hi => ?_⟩
  rw [eE_get hi]
  rcases mem_cN (List.getElem_mem hi) with h3 | ⟨j, h3, h4, h5⟩
  · obtain ⟨a, ha, h4 | h4⟩ := mem_cW h3
    · rw [h4.2]
      have := h.z a ha
      unfold WOk at this
      exact ⟨⟨by show ((k : Nat) : Int) ≠ (a : Int); omega, by show 0 ≤ (k : Int) ∧ (k : Int) < _; omega, by show 0 ≤ (a : Int) ∧ (a : Int) < _; omega⟩, by show 0 ≤ z a; omega, by show z a ≤ _; omega⟩
    · rw [h4.2]
      have := h.z a ha
      unfold WOk at this
      exact ⟨⟨by show (a : Int) ≠ ((k + 1 : Nat) : Int); omega, by show 0 ≤ (a : Int) ∧ (a : Int) < _; omega, by show 0 ≤ ((k + 1 : Nat) : Int) ∧ ((k + 1 : Nat) : Int) < _; omega⟩, by show 0 ≤ -z a; omega, by show -z a ≤ _; omega⟩
  · rw [h5]
    have := h.y j h3
    unfold NOk at this
    exact ⟨⟨h4, by show 0 ≤ (y j).1 ∧ (y j).1 < _; omega, by show 0 ≤ (y j).2 ∧ (y j).2 < _; omega⟩, by show (0 : Int) ≤ 1125899906842624; omega, by show (1125899906842624 : Int) ≤ _; omega⟩
theorem cNet_cap (k q : Nat) (z : Nat → Int) (y : Nat → Int × Int) (S : Nat → Bool) (hs : S k = true) (ht : S (k + 1) = false) : (cNet k q z y).capS S = pos z k - wgt z S k + bad y S q := by
  have h1 : (cNet k q z y).capS S = capE S (cL k q z y) := rfl
  rw [h1]
  unfold cL
  rw [capE_N, capE_W z k (k + 1) S hs ht]
structure Best (k q : Nat) (z : Nat → Int) (y : Nat → Int × Int) (S : Nat → Bool) : Prop where
  cl : Closed y q S
  best : ∀ C, Closed y q C → wgt z C k ≤ wgt z S k ∧ (wgt z C k = wgt z S k → ∀ v, v < k → S v = true → C v = true)
theorem wgt_congr {z : Nat → Int} {S T : Nat → Bool} {K : Nat} (h : ∀ v, v < K → S v = T v) : wgt z S K = wgt z T K := sumTo_congr fun i hi => by rw [h i hi]
theorem CArgs.best {k q : Nat} {z : Nat → Int} {y : Nat → Int × Int} (h : CArgs k q z y) {R : Nat → Int} (hd : (cNet k q z y).Done k (k + 1) R) {T : Nat → Bool} (hT : ∀ v, v < k → (T v = true ↔ (cNet k q z y).Reach R k v)) :
    Best k q z y T := by
  have ok : (cNet k q z y).Ok := VNet.ok h.net
  classical
  obtain ⟨S, hS⟩ : ∃ S : Nat → Bool, ∀ v, S v = true ↔ (cNet k q z y).Reach R k v := ⟨fun v => decide ((cNet k q z y).Reach R k v), fun v => by simp⟩
  have hST : ∀ v, v < k → T v = S v := fun v hv => by
    have h1 := hT v hv
    have h2 := hS v
    cases h3 : T v <;> cases h4 : S v <;> simp_all
  have hs : S k = true := (hS k).2 .here
  have ht : S (k + 1) = false := by
    cases e : S (k + 1)
    · rfl
    · exact absurd ((hS _).1 e) hd.no
  have hkn : k < (cNet k q z y).n := by show k < k + 2; omega
  have hc := hd.cap ok hkn hS
  rw [cNet_cap k q z y S hs ht] at hc
  have hval := hd.flow
  have hyk : ∀ j, j < q → (y j).1.toNat < k ∧ (y j).2.toNat < k := fun j hj => by have := h.y j hj; unfold NOk at this; omega
  have ext : ∀ C : Nat → Bool, Closed y q C → (cNet k q z y).bal (flowOf R) k ≤ pos z k - wgt z C k ∧ ((cNet k q z y).bal (flowOf R) k = pos z k - wgt z C k → ∀ v, v < k → S v = true → C v = true) := fun C hC => by
    have e1 : (fun v => if v < k then C v else decide (v = k)) k = true := by simp
    have e2 : (fun v => if v < k then C v else decide (v = k)) (k + 1) = false := by
      show (if k + 1 < k then C (k + 1) else decide (k + 1 = k)) = false
      rw [if_neg (by omega)]; simp
    have hw : wgt z (fun v => if v < k then C v else decide (v = k)) k = wgt z C k := wgt_congr fun v hv => by simp [hv]
    have hcl : Closed y q (fun v => if v < k then C v else decide (v = k)) := fun j hj h1 => by
      have h2 := hyk j hj
      simp only [h2.1, h2.2, if_true] at h1 ⊢
      exact hC j hj h1
    have hcap := cNet_cap k q z y (fun v => if v < k then C v else decide (v = k)) e1 e2
    rw [hw, bad_zero hcl] at hcap
    constructor
    · have := Net.weak (S := fun v => if v < k then C v else decide (v = k)) ok hval hkn e1 e2
      omega
    · intro he v hv h1
      have h2 := hd.near (S := fun v => if v < k then C v else decide (v = k)) ok hkn e1 e2 (by rw [hcap]; omega) v ((hS v).1 h1)
      simpa [hv] using h2
  have hpos : pos z k ≤ (k : Int) * 1073741824 := sumTo_bound fun i hi => by
    have := h.z i hi
    unfold WOk at this
    show (if 0 < z i then z i else 0) ≤ _
    split <;> omega
  have hk := h.k5
  have hS0 : Closed y q S := Classical.byContradiction fun hn => by
    have h1 := bad_big hn
    have h2 := (ext (fun _ => false) (fun j hj h => by cases h)).1
    have h3 : wgt z (fun _ => false) k = 0 := by unfold wgt; exact Eq.trans (sumTo_congr fun i _ => by simp) (sumTo_zero k)
    have h4 : wgt z S k ≤ pos z k := sumTo_le fun i _ => by
      show (if S i = true then z i else 0) ≤ (if 0 < z i then z i else 0)
      split <;> split <;> omega
    omega
  rw [bad_zero hS0] at hc
  refine ⟨fun j hj h1 => ?_, fun C hC => ?_⟩
  · have h2 := hyk j hj
    rw [hST _ h2.1] at h1
    rw [hST _ h2.2]; exact hS0 j hj h1
  · obtain ⟨e1, e2⟩ := ext C hC
    rw [wgt_congr hST]
    exact ⟨by omega, fun he v hv h1 => e2 (by omega) v hv (by rw [← hST v hv]; exact h1)⟩
end Go.Proofs.Ytjdceafkcakbjaa
