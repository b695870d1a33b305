/- A flow made greater along the way that the reference's search has found (mathematics). -/
import Derived.Test.YtjdceafkcakbjaaFRch
namespace Go.Proofs.Ytjdceafkcakbjaa
/- p has been sent from v, which is q's i-th, to t -/
structure Net.Aug (N : Net) (R0 : Nat → Int) (q : List Nat) (t : Nat) (p : Int) (i v : Nat) (R : Nat → Int) : Prop where
  at_ : q[i]? = some v
  rest : N.Rest N.cp R
  ex : ∀ u, N.ex R u = N.ex R0 u + (if u = v then p else 0) - (if u = t then p else 0)
  old : ∀ k, k < 2 * N.m → (∃ j, j ≤ i ∧ q[j]? = some (N.aT k)) → (∃ j, j ≤ i ∧ q[j]? = some (N.aF k)) → R k = R0 k
theorem Net.Aug.start {N : Net} {R0 : Nat → Int} {q : List Nat} {t i : Nat} (p : Int) (h : N.Rest N.cp R0) (hi : q[i]? = some t) : N.Aug R0 q t p i t R0 :=
  ⟨hi, h, fun u => by split <;> omega, fun _ _ _ _ => rfl⟩
theorem nodup_at {q : List Nat} (h : q.Nodup) {i j v : Nat} (hi : q[i]? = some v) (hj : q[j]? = some v) : i = j := by
  have h1 := (List.getElem?_eq_some_iff.1 hi)
  have h2 := (List.getElem?_eq_some_iff.1 hj)
  obtain ⟨a1, e1⟩ := h1
  obtain ⟨a2, e2⟩ := h2
  have hp := List.pairwise_iff_getElem.1 h
  rcases Nat.lt_trichotomy i j with h3 | h3 | h3
  · exact absurd (e1.trans e2.symm) (hp i j a1 a2 h3)
  · exact h3
  · exact absurd (e2.trans e1.symm) (hp j i a2 a1 h3)
theorem Net.Aug.step {N : Net} (ok : N.Ok) {R0 R : Nat → Int} {q : List Nat} {t i v k j : Nat} {p : Int} (h : N.Aug R0 q t p i v R) (nd : q.Nodup) (hk : k < 2 * N.m) (hT : N.aT k = v) (hj : j < i) (hF : q[j]? = some (N.aF k)) (hp0 : 0 ≤ p) (hp : p ≤ R0 k) :
    N.Aug R0 q t p j (N.aF k) (sent1 R k p) ∧ R k = R0 k := by
  have hRk : R k = R0 k := h.old k hk ⟨i, Nat.le_refl _, by rw [hT]; exact h.at_⟩ ⟨j, by omega, hF⟩
  refine ⟨⟨hF, h.rest.sent1 hk hp0 (by rw [hRk]; exact hp), fun u => ?_, fun l hl h1 h2 => ?_⟩, hRk⟩
  · rw [N.ex_sent1 ok R hk p u, h.ex u, hT]
    omega
  · obtain ⟨j1, g1, e1⟩ := h1
    obtain ⟨j2, g2, e2⟩ := h2
    have n1 : l ≠ k := fun e => by
      subst e
      rw [hT] at e1
      have := nodup_at nd e1 h.at_
      omega
    have n2 : l ≠ bk k := fun e => by
      subst e
      rw [N.aF_bk, hT] at e2
      have := nodup_at nd e2 h.at_
      omega
    show (if l = k then _ else if l = bk k then _ else R l) = _
    rw [if_neg n1, if_neg n2]
    exact h.old l hl ⟨j1, by omega, e1⟩ ⟨j2, by omega, e2⟩
/- what has come out at the way's begin -/
theorem Net.Aug.flow {N : Net} {g R : Nat → Int} {q : List Nat} {s t i : Nat} {p : Int} (h : N.Aug (resid N.cp g) q t p i s R) (hg : N.Flow s t g) (hst : s ≠ t) :
    N.Flow s t (flowOf R) ∧ N.bal (flowOf R) s = N.bal g s + p := by
  have hex : ∀ u, N.bal (flowOf R) u = N.bal g u + (if u = s then p else 0) - (if u = t then p else 0) := fun u => by
    have := h.ex u
    have e : N.ex (resid N.cp g) u = N.bal g u := by
      show N.bal (fun i => resid N.cp g (2 * i + 1)) u = _
      rw [show (fun i => resid N.cp g (2 * i + 1)) = g from funext fun i => resid_odd N.cp g i]
    rw [e] at this
    exact this
  refine ⟨⟨fun i hi => h.rest.r0 _ (by omega), fun i hi => ?_, fun v hv h1 h2 => ?_⟩, ?_⟩
  · have := h.rest.pr i hi
    have := h.rest.r0 (2 * i) (by omega)
    unfold flowOf; omega
  · rw [hex v, if_neg h1, if_neg h2, hg.b v hv h1 h2]; omega
  · rw [hex s, if_pos rfl, if_neg hst]; omega
/- what one arc changes in the flow -/
theorem flowOf_sent_even (R : Nat → Int) (i : Nat) (p : Int) (j : Nat) : flowOf (sent1 R (2 * i) p) j = if j = i then flowOf R i + p else flowOf R j := by
  unfold flowOf sent1
  have hb : bk (2 * i) = 2 * i + 1 := by unfold bk; rw [if_pos (by omega)]
  rw [if_neg (by omega), hb]
  by_cases e : j = i
  · subst e; rw [if_pos rfl, if_pos rfl]
  · rw [if_neg (by omega), if_neg e]
theorem flowOf_sent_odd (R : Nat → Int) (i : Nat) (p : Int) (j : Nat) : flowOf (sent1 R (2 * i + 1) p) j = if j = i then flowOf R i - p else flowOf R j := by
  unfold flowOf sent1
  have hb : bk (2 * i + 1) = 2 * i := by unfold bk; rw [if_neg (by omega)]; omega
  rw [hb]
  by_cases e : j = i
  · subst e; rw [if_pos rfl, if_pos rfl]
  · rw [if_neg (by omega), if_neg (by omega), if_neg e]
end Go.Proofs.Ytjdceafkcakbjaa
