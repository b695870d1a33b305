/- The reference's search in a residual network: what it has found, and by which arc (mathematics). -/
import Derived.Test.YtjdceafkcakbjaaFMath
namespace Go.Proofs.Ytjdceafkcakbjaa
/- how the reference names an arc: edge i forwards is i, backwards -2 - i -/
def code (k : Nat) : Int := if k % 2 = 0 then ((k / 2 : Nat) : Int) else -2 - ((k / 2 : Nat) : Int)
theorem code_even (i : Nat) : code (2 * i) = (i : Int) := by unfold code; rw [if_pos (by omega), show 2 * i / 2 = i by omega]
theorem code_odd (i : Nat) : code (2 * i + 1) = -2 - (i : Int) := by unfold code; rw [if_neg (by omega), show (2 * i + 1) / 2 = i by omega]
structure Net.Rb (N : Net) (R : Nat → Int) (s at_ : Nat) (q : List Nat) (b : Nat → Int) : Prop where
  q0 : q[0]? = some s
  nd : q.Nodup
  lt : ∀ v, v ∈ q → v < N.n
  pred : ∀ (i v : Nat), q[i]? = some v → i ≠ 0 → ∃ k j, k < 2 * N.m ∧ 0 < R k ∧ N.aT k = v ∧ b v = code k ∧ j < i ∧ q[j]? = some (N.aF k)
  clos : ∀ (i v : Nat), i < at_ → q[i]? = some v → ∀ k, k < 2 * N.m → N.aF k = v → 0 < R k → N.aT k ∈ q
theorem rb_start {N : Net} {R : Nat → Int} {s : Nat} (hs : s < N.n) (b : Nat → Int) : N.Rb R s 0 [s] b :=
  ⟨rfl, by simp, fun v hv => by simp at hv; subst hv; exact hs, fun i v h hi => by
    have := (List.getElem?_eq_some_iff.1 h).1
    simp at this; omega, fun i v h => absurd h (Nat.not_lt_zero _)⟩
theorem Net.Rb.len {N : Net} {R : Nat → Int} {s a : Nat} {q : List Nat} {b : Nat → Int} (h : N.Rb R s a q b) : q.length ≤ N.n := nodup_len _ _ h.nd h.lt
/- the first K arcs have been looked at from c -/
structure Net.Ri (N : Net) (R : Nat → Int) (s at_ c K : Nat) (q : List Nat) (b : Nat → Int) : Prop where
  b : N.Rb R s at_ q b
  qc : q[at_]? = some c
  seen : ∀ k, k < K → k < 2 * N.m → N.aF k = c → 0 < R k → N.aT k ∈ q
theorem Net.Rb.begin {N : Net} {R : Nat → Int} {s a c : Nat} {q : List Nat} {b : Nat → Int} (h : N.Rb R s a q b) (hc : q[a]? = some c) : N.Ri R s a c 0 q b :=
  ⟨h, hc, fun _ hk => absurd hk (Nat.not_lt_zero _)⟩
theorem Net.Ri.skip {N : Net} {R : Nat → Int} {s a c K : Nat} {q : List Nat} {b : Nat → Int} (h : N.Ri R s a c K q b) (hk : N.aF K = c → 0 < R K → N.aT K ∈ q) : N.Ri R s a c (K + 1) q b :=
  ⟨h.b, h.qc, fun k h1 h2 h3 h4 => by
    by_cases e : k = K
    · subst e; exact hk h3 h4
    · exact h.seen k (by omega) h2 h3 h4⟩
theorem Net.Ri.found {N : Net} {R : Nat → Int} {s a c K v : Nat} {q : List Nat} {b : Nat → Int} (h : N.Ri R s a c K q b) (hK : K < 2 * N.m) (hv : v < N.n) (hc : N.aF K = c) (ht : N.aT K = v) (hr : 0 < R K) (hn : v ∉ q) :
    N.Ri R s a c (K + 1) (q ++ [v]) (fun x => if x = v then code K else b x) := by
  have hal := (List.getElem?_eq_some_iff.1 h.qc).1
  refine ⟨⟨?_, ?_, fun x hx => ?_, fun i x hi h0 => ?_, fun i x hi hq k hk he hrk => ?_⟩, ?_, fun k h1 h2 h3 h4 => ?_⟩
  · rw [List.getElem?_append_left (by omega)]; exact h.b.q0
  · rw [List.nodup_append]
    refine ⟨h.b.nd, by simp, fun x hx y hy => ?_⟩
    simp at hy; subst hy
    exact fun e => hn (e ▸ hx)
  · rcases List.mem_append.1 hx with h1 | h1
    · exact h.b.lt x h1
    · simp at h1; subst h1; exact hv
  · by_cases hil : i < q.length
    · rw [List.getElem?_append_left hil] at hi
      have hxv : x ≠ v := fun e => hn (by rw [← e]; exact List.mem_iff_getElem?.2 ⟨i, hi⟩)
      obtain ⟨k, j, k1, k2, k3, k4, k5, k6⟩ := h.b.pred i x hi h0
      exact ⟨k, j, k1, k2, k3, by show (if x = v then _ else _) = _; rw [if_neg hxv]; exact k4, k5, by rw [List.getElem?_append_left (by omega)]; exact k6⟩
    · rw [List.getElem?_append_right (by omega)] at hi
      have hi0 : i - q.length = 0 := by
        have := (List.getElem?_eq_some_iff.1 hi).1
        simp at this; omega
      rw [hi0] at hi
      simp at hi; subst hi
      exact ⟨K, a, hK, hr, ht, by show (if v = v then _ else _) = _; rw [if_pos rfl], by omega, by rw [hc, List.getElem?_append_left hal]; exact h.qc⟩
  · rw [List.getElem?_append_left (by omega)] at hq
    exact List.mem_append_left _ (h.b.clos i x hi hq k hk he hrk)
  · rw [List.getElem?_append_left hal]; exact h.qc
  · by_cases e : k = K
    · subst e; rw [ht]; simp
    · exact List.mem_append_left _ (h.seen k (by omega) h2 h3 h4)
theorem Net.Ri.done {N : Net} {R : Nat → Int} {s a c K : Nat} {q : List Nat} {b : Nat → Int} (h : N.Ri R s a c K q b) (hK : 2 * N.m ≤ K) : N.Rb R s (a + 1) q b :=
  ⟨h.b.q0, h.b.nd, h.b.lt, h.b.pred, fun i v hi hq k hk he hr => by
    by_cases e : i = a
    · subst e
      rw [h.qc] at hq
      obtain rfl := Option.some.inj hq
      exact h.seen k (by omega) hk he hr
    · exact h.b.clos i v (by omega) hq k hk he hr⟩
/- when nothing is left to look at, just what is reached has been found -/
theorem Net.Rb.reach {N : Net} {R : Nat → Int} {s a : Nat} {q : List Nat} {b : Nat → Int} (h : N.Rb R s a q b) (ha : q.length ≤ a) (v : Nat) : v ∈ q ↔ N.Reach R s v := by
  constructor
  · intro hm
    obtain ⟨i, hi⟩ := List.mem_iff_getElem?.1 hm
    have key : ∀ (n i v : Nat), i ≤ n → q[i]? = some v → N.Reach R s v := by
      intro n
      induction n with
      | zero =>
        intro i v hi hq
        obtain rfl : i = 0 := by omega
        rw [h.q0] at hq
        obtain rfl := Option.some.inj hq
        exact .here
      | succ n ih =>
        intro i v hi hq
        by_cases h0 : i = 0
        · subst h0
          rw [h.q0] at hq
          obtain rfl := Option.some.inj hq
          exact .here
        · obtain ⟨k, j, k1, k2, k3, _, k5, k6⟩ := h.pred i v hq h0
          rw [← k3]
          exact .go k k1 k2 (ih j _ (by omega) k6)
    exact key i i v (Nat.le_refl _) hi
  · intro hr
    induction hr with
    | here => exact List.mem_iff_getElem?.2 ⟨0, h.q0⟩
    | go k hk hr _ ih =>
      obtain ⟨i, hi⟩ := List.mem_iff_getElem?.1 ih
      have := (List.getElem?_eq_some_iff.1 hi).1
      exact h.clos i _ (by omega) hi k hk rfl hr
/- the residual network of a flow -/
def resid (C g : Nat → Int) (k : Nat) : Int := if k % 2 = 0 then C (k / 2) - g (k / 2) else g (k / 2)
theorem resid_even (C g : Nat → Int) (i : Nat) : resid C g (2 * i) = C i - g i := by unfold resid; rw [if_pos (by omega), show 2 * i / 2 = i by omega]
theorem resid_odd (C g : Nat → Int) (i : Nat) : resid C g (2 * i + 1) = g i := by unfold resid; rw [if_neg (by omega), show (2 * i + 1) / 2 = i by omega]
theorem resid_flowOf (C g : Nat → Int) : flowOf (resid C g) = g := funext fun i => resid_odd C g i
theorem resid_rest {N : Net} {g : Nat → Int} (h0 : ∀ i, i < N.m → 0 ≤ g i) (h1 : ∀ i, i < N.m → g i ≤ N.cp i) : N.Rest N.cp (resid N.cp g) :=
  ⟨fun k hk => by
    have a := h0 (k / 2) (by omega)
    have b := h1 (k / 2) (by omega)
    unfold resid; split <;> omega, fun i _ => by rw [resid_even, resid_odd]; omega⟩
/- a flow without a way left is a greatest one -/
theorem done_of_flow {N : Net} {s t : Nat} {g : Nat → Int} (h : N.Flow s t g) (hn : ¬ N.Reach (resid N.cp g) s t) : N.Done s t (resid N.cp g) :=
  ⟨resid_rest h.r0 h.r1, fun v hv h1 h2 => by show N.bal (fun i => resid N.cp g (2 * i + 1)) v = 0; rw [show (fun i => resid N.cp g (2 * i + 1)) = g from funext fun i => resid_odd N.cp g i]; exact h.b v hv h1 h2, hn⟩
end Go.Proofs.Ytjdceafkcakbjaa
