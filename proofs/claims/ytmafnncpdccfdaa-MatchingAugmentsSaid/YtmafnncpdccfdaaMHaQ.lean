/- What the law of Hall finds: the best deficiency, and the least set that has it (mathematics). -/
import Derived.Test.YtmafnncpdccfdaaMHaP
namespace Go.Proofs.Ytmafnncpdccfdaa
/- the flags of a mask -/
def mT (n K : Nat) : Nat → Bool := fun i => if i < n then K.testBit i else false
def dF (E : Nat → Int × Int) (n k K : Nat) : Int := ((cntT (mT n K) n : Nat) : Int) - ((dC E (mT n K) k : Nat) : Int)
theorem cntT_congr {S T : Nat → Bool} {n : Nat} (h : ∀ i, i < n → S i = T i) : cntT S n = cntT T n :=
  Nat.le_antisymm (cntT_mono fun i hi hs => by rw [← h i hi]; exact hs) (cntT_mono fun i hi hs => by rw [h i hi]; exact hs)
section
variable {n m k : Nat} {E : Nat → Int × Int} (hv : VG n m k E)
include hv
theorem nbs_row : ∀ K, K ≤ k → ∀ a b, b ∈ nbs E K a → a < n
  | 0, _, _, _, h => by cases h
  | K + 1, hK, a, b, hb => by
    obtain ⟨⟨h1, h2⟩, _, _⟩ := hv.ran K hK
    have e : nbs E (K + 1) = setL (nbs E K) (E K).1.toNat (nbs E K (E K).1.toNat ++ [(E K).2.toNat]) := if_pos h1
    rw [e] at hb
    unfold setL at hb
    split at hb
    · omega
    · exact nbs_row K (by omega) a b hb
theorem near_of (T : Nat → Bool) (b : Nat) : dN E T k b = true ↔ ∃ a, a < n ∧ T a = true ∧ b ∈ nbs E k a := by
  rw [dN_iff hv T b k (Nat.le_refl _)]
  exact ⟨fun ⟨a, h1, h2⟩ => ⟨a, nbs_row hv k (Nat.le_refl _) a b h2, h1, h2⟩, fun ⟨a, _, h1, h2⟩ => ⟨a, h1, h2⟩⟩
theorem dF_eq (K : Nat) : dF E n k K = ((cntT (mT n K) n : Nat) : Int) - ((cntT (dN E (mT n K) k) m : Nat) : Int) := by
  unfold dF
  have := dC_cnt hv (mT n K) k (Nat.le_refl _)
  rw [this]; rfl
/- how many left nodes remain -/
def fr (n m k : Nat) (E : Nat → Int × Int) : Nat := cntT (freeB (maxS (nbs E k) m n)) n
theorem dF_le (K : Nat) : dF E n k K ≤ ((fr n m k E : Nat) : Int) := by
  rw [dF_eq hv]; exact hall_max (maxM hv) (fun b => near_of hv (mT n K) b)
theorem rsI_of : RsI n m (nbs E k) (maxS (nbs E k) m n) n := by
  obtain ⟨C, hC, hF⟩ := maxC (n := n) (vg_nb hv) n (Nat.le_refl _)
  exact rsI (vg_nb hv) (maxM hv) hC hF n (Nat.le_refl _)
omit hv in
theorem mT_mask : ∀ i, i < n → mT n (maskOf (mleft n m k E) n) i = mleft n m k E i := fun i hi => by unfold mT; rw [if_pos hi, maskOf_bit _ _ _ hi]
theorem dF_mask : dF E n k (maskOf (mleft n m k E) n) = ((fr n m k E : Nat) : Int) := by
  rw [dF_eq hv, cntT_congr (mT_mask)]
  have h1 : cntT (mleft n m k E) n = fr n m k E + cntT (mseen n m k E) m := cnt_left (maxM hv) (rsI_of hv)
  have h2 : cntT (dN E (mT n (maskOf (mleft n m k E) n)) k) m = cntT (mseen n m k E) m := cntT_congr fun b _ => by
    have e1 := near_of hv (mT n (maskOf (mleft n m k E) n)) b
    have e2 := near_left (maxM hv) (rsI_of hv) b
    have e3 : (∃ a, a < n ∧ mT n (maskOf (mleft n m k E) n) a = true ∧ b ∈ nbs E k a) ↔ ∃ a, a < n ∧ mleft n m k E a = true ∧ b ∈ nbs E k a :=
      ⟨fun ⟨a, h1, h2, h3⟩ => ⟨a, h1, by rw [← mT_mask a h1]; exact h2, h3⟩, fun ⟨a, h1, h2, h3⟩ => ⟨a, h1, by rw [mT_mask a h1]; exact h2, h3⟩⟩
    exact Bool.eq_iff_iff.2 (e1.trans (e3.trans e2.symm))
  rw [h1, h2]; omega
theorem bst_end : bst (dF E n k) (2 ^ n) = ((fr n m k E : Nat) : Int) := by
  have h1 := bst_le (d := dF E n k) (F := ((fr n m k E : Nat) : Int)) (by omega) (2 ^ n) (fun M _ => dF_le hv M)
  have h2 := (bst_ge (dF E n k) (2 ^ n)).2 _ (maskOf_lt (mleft n m k E) n)
  rw [dF_mask hv] at h2
  omega
theorem lst_end (l0 : Nat) (hF : 0 < fr n m k E) (i : Nat) (hi : i < n) : (lst (dF E n k) l0 (2 ^ n)).testBit i = mleft n m k E i := by
  have h := lst_bits (d := dF E n k) (F := ((fr n m k E : Nat) : Int)) (l0 := l0) (by omega) (2 ^ n) (fun M _ => dF_le hv M) (bst_end hv) i
  refine Bool.eq_iff_iff.2 (h.trans ⟨fun hall => ?_, fun hl M hM hd => ?_⟩)
  · have := hall _ (maskOf_lt (mleft n m k E) n) (dF_mask hv)
    rw [maskOf_bit _ _ _ hi] at this; exact this
  · rw [dF_eq hv] at hd
    have := left_least (maxM hv) (vg_nb hv) (rsI_of hv) (T := mT n M) (fun b => near_of hv (mT n M) b) (by unfold fr at hd; omega) i hi hl
    unfold mT at this
    rw [if_pos hi] at this; exact this
omit hv in
theorem len_end : (prl (maxS (nbs E k) m n).L n).length + fr n m k E = n := prl_cnt (maxS (nbs E k) m n).L n
end
end Go.Proofs.Ytmafnncpdccfdaa
