/- The mathematics of the reference's Cycle: how far each number is, found in place. -/
import Derived.Test.YtfjikeejifhnbaaDoorRTor
namespace Go.Proofs.YtfjikeejifhnbaaDoor
open Go.RowKit
structure BF (T : Nat → Nat → Bool) (n s K I D : Nat) (f : Nat → Nat) : Prop where
  lo : ∀ i, i < n → f i = n + 1 ∨ (1 ≤ f i ∧ f i ≤ n ∧ reach T n s (f i) i = true)
  up : ∀ i, i < n → ∀ v, 1 ≤ v → v ≤ K + 1 → reach T n s v i = true → f i ≤ v
  mid : ∀ i, i < I → i < n → ∀ v, 1 ≤ v → v ≤ K + 2 → reach T n s v i = true → f i ≤ v
  inn : I < n → ∀ j, j < D → T I j = true → ∀ v, 1 ≤ v → v ≤ K + 1 → reach T n s v j = true → f I ≤ v + 1
def far0 (T : Nat → Nat → Bool) (n s : Nat) : Nat → Nat := fun i => if T i s = true then 1 else n + 1
section
variable {T : Nat → Nat → Bool} {n s K I D : Nat} {f : Nat → Nat}
theorem bf_start (hs : s < n) : BF T n s 0 0 0 (far0 T n s) := by
  refine ⟨fun i _ => ?_, fun i _ v h1 h2 hr => ?_, fun i hi => absurd hi (Nat.not_lt_zero _), fun _ j hj => absurd hj (Nat.not_lt_zero _)⟩
  · unfold far0
    by_cases h : T i s = true
    · rw [if_pos h]; exact Or.inr ⟨by omega, by omega, (reach_one hs).2 h⟩
    · rw [if_neg h]; exact Or.inl rfl
  · obtain rfl : v = 1 := by omega
    unfold far0
    rw [if_pos ((reach_one hs).1 hr)]; omega
theorem BF.le (h : BF T n s K I D f) {i : Nat} (hi : i < n) : 1 ≤ f i ∧ f i ≤ n + 1 := by
  rcases h.lo i hi with e | ⟨h1, h2, _⟩
  · omega
  · omega
theorem BF.no (h : BF T n s K I D f) (ht : T I D = false) : BF T n s K I (D + 1) f :=
  ⟨h.lo, h.up, h.mid, fun hI j hj hT => by
    by_cases e : j = D
    · subst e; rw [ht] at hT; cases hT
    · exact h.inn hI j (by omega) hT⟩
theorem BF.keep (h : BF T n s K I D f) (hD : D < n) (hle : ¬ f D + 1 < f I) : BF T n s K I (D + 1) f :=
  ⟨h.lo, h.up, h.mid, fun hI j hj hT v h1 h2 hr => by
    by_cases e : j = D
    · subst e
      have := h.up j hD v h1 h2 hr
      omega
    · exact h.inn hI j (by omega) hT v h1 h2 hr⟩
theorem BF.set (h : BF T n s K I D f) (hI : I < n) (hD : D < n) (ht : T I D = true) (hlt : f D + 1 < f I) : BF T n s K I (D + 1) (fun x => if x = I then f D + 1 else f x) := by
  have hle : ∀ x, (if x = I then f D + 1 else f x) ≤ f x := fun x => by
    by_cases e : x = I
    · rw [if_pos e, e]; omega
    · rw [if_neg e]; exact Nat.le_refl _
  refine ⟨fun i hi => ?_, fun i hi v h1 h2 hr => Nat.le_trans (hle i) (h.up i hi v h1 h2 hr), fun i hi hn v h1 h2 hr => Nat.le_trans (hle i) (h.mid i hi hn v h1 h2 hr), fun hIn j hj hT v h1 h2 hr => ?_⟩
  · show (if i = I then f D + 1 else f i) = n + 1 ∨ (1 ≤ (if i = I then f D + 1 else f i) ∧ (if i = I then f D + 1 else f i) ≤ n ∧ reach T n s (if i = I then f D + 1 else f i) i = true)
    by_cases e : i = I
    · rw [if_pos e]
      have hI2 := h.le hI
      rcases h.lo D hD with e2 | ⟨h1, h2, h3⟩
      · omega
      · exact Or.inr ⟨by omega, by omega, reach_succ.2 ⟨D, hD, by rw [e]; exact ht, h3⟩⟩
    · rw [if_neg e]; exact h.lo i hi
  · show (if I = I then f D + 1 else f I) ≤ v + 1
    rw [if_pos rfl]
    by_cases e : j = D
    · subst e
      have := h.up j hD v h1 h2 hr
      omega
    · have := h.inn hIn j (by omega) hT v h1 h2 hr
      omega
theorem BF.row (h : BF T n s K I n f) (hI : I < n) : BF T n s K (I + 1) 0 f := by
  refine ⟨h.lo, h.up, fun i hi hn v h1 h2 hr => ?_, fun _ j hj => absurd hj (Nat.not_lt_zero _)⟩
  by_cases e : i = I
  · subst e
    by_cases e1 : v = 1
    · subst e1; exact h.up i hn 1 (by omega) (by omega) hr
    · obtain ⟨u, rfl⟩ : ∃ u, v = u + 1 := ⟨v - 1, by omega⟩
      obtain ⟨j, hj, h3, h4⟩ := reach_succ.1 hr
      exact h.inn hI j hj h3 u (by omega) (by omega) h4
  · exact h.mid i (by omega) hn v h1 h2 hr
theorem BF.round (h : BF T n s K n 0 f) : BF T n s (K + 1) 0 0 f :=
  ⟨h.lo, fun i hi v h1 h2 hr => h.mid i hi hi v h1 (by omega) hr, fun i hi => absurd hi (Nat.not_lt_zero _), fun _ j hj => absurd hj (Nat.not_lt_zero _)⟩
theorem BF.far (h : BF T n s n 0 0 f) {i : Nat} (hi : i < n) : f i = if dist T n s i = 0 then n + 1 else dist T n s i := by
  by_cases e : dist T n s i = 0
  · rw [if_pos e]
    rcases h.lo i hi with e2 | ⟨h1, h2, h3⟩
    · exact e2
    · have := dist_zero e h1 h2
      rw [h3] at this; cases this
  · rw [if_neg e]
    obtain ⟨d1, d2, d3⟩ := dist_spec e
    have hle := h.up i hi _ (by omega) (by omega) d2
    rcases h.lo i hi with e2 | ⟨h1, h2, h3⟩
    · omega
    · rcases Nat.lt_or_ge (f i) (dist T n s i) with hlt | hge
      · have := d3 (f i) h1 hlt
        rw [h3] at this; cases this
      · omega
end
end Go.Proofs.YtfjikeejifhnbaaDoor
