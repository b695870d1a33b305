/- The reference's Max: the way back from the sink, as `by` tells it (mathematics). -/
import Derived.Test.YtjdceafkcakbjaaFAug
namespace Go.Proofs.Ytjdceafkcakbjaa
def dec (c : Int) : Nat := if 0 ≤ c then 2 * c.toNat else 2 * (-2 - c).toNat + 1
theorem dec_code (k : Nat) : dec (code k) = k := by
  unfold dec code
  by_cases h : k % 2 = 0
  · rw [if_pos h, if_pos (by omega)]; omega
  · rw [if_neg h, if_neg (by omega)]; omega
/- the d-th node of the way back -/
def Net.back (N : Net) (b : Nat → Int) (t : Nat) : Nat → Nat
  | 0 => t
  | d + 1 => N.aF (dec (b (N.back b t d)))
theorem Net.Rb.step {N : Net} {R : Nat → Int} {s a : Nat} {q : List Nat} {b : Nat → Int} (h : N.Rb R s a q b) {i v : Nat} (hi : q[i]? = some v) (hv : v ≠ s) :
    ∃ k j, k < 2 * N.m ∧ 0 < R k ∧ N.aT k = v ∧ b v = code k ∧ j < i ∧ q[j]? = some (N.aF k) ∧ ∀ t d, N.back b t d = v → N.back b t (d + 1) = N.aF k := by
  obtain ⟨k, j, k1, k2, k3, k4, k5, k6⟩ := h.pred i v hi (fun e => by
    subst e
    rw [h.q0] at hi
    exact hv (Option.some.inj hi).symm)
  exact ⟨k, j, k1, k2, k3, k4, k5, k6, fun t d e => by show N.aF (dec (b (N.back b t d))) = _; rw [e, k4, dec_code]⟩
/- where a number stands in a list -/
def posn : List Nat → Nat → Nat
  | [], _ => 0
  | x :: l, v => if x = v then 0 else posn l v + 1
theorem posn_eq : ∀ {l : List Nat} {i v : Nat}, l.Nodup → l[i]? = some v → posn l v = i
  | [], i, v, _, h => by simp at h
  | x :: l, 0, v, _, h => by
    simp at h; subst h
    show (if x = x then 0 else _) = 0
    rw [if_pos rfl]
  | x :: l, i + 1, v, hn, h => by
    have h' : l[i]? = some v := by simpa using h
    have hm : v ∈ l := List.mem_iff_getElem?.2 ⟨i, h'⟩
    have hne : x ≠ v := fun e => by
      subst e
      exact (List.nodup_cons.1 hn).1 hm
    show (if x = v then 0 else posn l v + 1) = i + 1
    rw [if_neg hne, posn_eq (List.nodup_cons.1 hn).2 h']
/- most can go along the first d arcs of the way back -/
structure Net.Tr (N : Net) (R : Nat → Int) (s t : Nat) (q : List Nat) (b : Nat → Int) (d i v : Nat) (p : Int) : Prop where
  at_ : q[i]? = some v
  bk : N.back b t d = v
  p0 : 0 < p
  p1 : p ≤ 1125899906842624
  car : ∀ e, e < d → p ≤ R (dec (b (N.back b t e))) ∧ N.back b t e ≠ s
theorem tr_start {N : Net} {R : Nat → Int} {s t i : Nat} {q : List Nat} {b : Nat → Int} (h : q[i]? = some t) : N.Tr R s t q b 0 i t 1125899906842624 :=
  ⟨h, rfl, by omega, by omega, fun _ h => absurd h (Nat.not_lt_zero _)⟩
theorem Net.Tr.next {N : Net} {R : Nat → Int} {s t d i v j k : Nat} {q : List Nat} {b : Nat → Int} {p : Int} (h : N.Tr R s t q b d i v p) (hv : v ≠ s) (hj : q[j]? = some (N.aF k)) (hb : b v = code k) (hr : 0 < R k) :
    N.Tr R s t q b (d + 1) j (N.aF k) (min p (R k)) := by
  have hbk := h.bk
  refine ⟨hj, by show N.aF (dec (b (N.back b t d))) = _; rw [hbk, hb, dec_code], by have := h.p0; omega, by have := h.p1; omega, fun e he => ?_⟩
  by_cases c : e = d
  · subst c
    rw [hbk, hb, dec_code]
    exact ⟨by omega, hv⟩
  · have := h.car e (by omega)
    exact ⟨by omega, this.2⟩
end Go.Proofs.Ytjdceafkcakbjaa
