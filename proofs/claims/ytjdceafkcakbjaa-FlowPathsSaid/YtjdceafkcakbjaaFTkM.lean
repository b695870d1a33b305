/- Paths of a flow: what taking one path changes (mathematics). -/
import Derived.Test.YtjdceafkcakbjaaFNew
import Derived.Test.YtjdceafkcakbjaaFRch
namespace Go.Proofs.Ytjdceafkcakbjaa
/- how much of g goes along the flat pair j -/
def Net.eS (N : Net) (g : Nat → Int) (j : Nat) : Int := sumTo N.m fun e => if N.fr e * N.n + N.tt e = j then g e else 0
/- how often the first K nodes of a list step along the flat pair j -/
def fc (n : Nat) (p : List Nat) : Nat → Nat → Int
  | 0, _ => 0
  | K + 1, j => fc n p K j + (if 0 < K ∧ p.getD (K - 1) 0 * n + p.getD K 0 = j then 1 else 0)
theorem fc_cons (n a : Nat) (p : List Nat) (j : Nat) : ∀ K, fc n (a :: p) (K + 1) j = fc n p K j + (if 0 < K ∧ a * n + p.getD 0 0 = j then 1 else 0)
  | 0 => by
    show fc n (a :: p) 0 j + (if 0 < 0 ∧ _ then 1 else 0) = fc n p 0 j + _
    rw [if_neg (by omega), if_neg (by omega)]; rfl
  | K + 1 => by
    have ih := fc_cons n a p j K
    show fc n (a :: p) (K + 1) j + (if 0 < K + 1 ∧ (a :: p).getD (K + 1 - 1) 0 * n + (a :: p).getD (K + 1) 0 = j then 1 else 0) = fc n p K j + (if 0 < K ∧ p.getD (K - 1) 0 * n + p.getD K 0 = j then 1 else 0) + _
    rw [ih]
    have e1 : (a :: p).getD (K + 1) 0 = p.getD K 0 := by simp [List.getD_eq_getElem?_getD]
    by_cases h0 : K = 0
    · subst h0
      have e2 : (a :: p).getD (0 + 1 - 1) 0 = a := by simp
      rw [e1, e2]
      simp
    · have e2 : (a :: p).getD (K + 1 - 1) 0 = p.getD (K - 1) 0 := by
        obtain ⟨k, rfl⟩ : ∃ k, K = k + 1 := ⟨K - 1, by omega⟩
        simp [List.getD_eq_getElem?_getD]
      rw [e1, e2]
      have h1 : 0 < K := by omega
      have h2 : 0 < K + 1 := by omega
      simp only [h1, h2, true_and]
      omega
def dec1 (g : Nat → Int) (e : Nat) : Nat → Int := fun i => if i = e then g e - 1 else g i
theorem Net.eS_dec (N : Net) (g : Nat → Int) {e : Nat} (he : e < N.m) (j : Nat) : N.eS (dec1 g e) j = N.eS g j - (if N.fr e * N.n + N.tt e = j then 1 else 0) := by
  unfold Net.eS
  rw [sumTo_upd (f := fun i => if N.fr i * N.n + N.tt i = j then g i else 0) e (fun i hi => by simp [dec1, hi]) he]
  by_cases h : N.fr e * N.n + N.tt e = j
  · simp [h, dec1]; omega
  · simp [h]
theorem Net.bal_dec (N : Net) (g : Nat → Int) {e : Nat} (he : e < N.m) (v : Nat) : N.bal (dec1 g e) v = N.bal g v - (if N.fr e = v then 1 else 0) + (if N.tt e = v then 1 else 0) := by
  unfold Net.bal
  rw [sumTo_upd (f := fun i => (if N.fr i = v then g i else 0) - (if N.tt i = v then g i else 0)) e (fun i hi => by simp [dec1, hi]) he]
  by_cases h1 : N.fr e = v <;> by_cases h2 : N.tt e = v <;> simp [h1, h2, dec1] <;> omega
theorem rest0_even (g : Nat → Int) (i : Nat) : rest0 g (2 * i) = g i := by unfold rest0; rw [if_pos (by omega), show 2 * i / 2 = i by omega]
theorem rest0_odd (g : Nat → Int) (i : Nat) : rest0 g (2 * i + 1) = 0 := by unfold rest0; rw [if_neg (by omega)]
theorem rest0_dec (g : Nat → Int) (e : Nat) : ∀ k, up (rest0 g) (2 * e) (g e - 1) k = rest0 (dec1 g e) k := fun k => by
  unfold up rest0 dec1
  by_cases h : k = 2 * e
  · subst h
    rw [if_pos rfl, if_pos (by omega), if_pos (by omega)]
  · rw [if_neg h]
    by_cases h2 : k % 2 = 0
    · rw [if_pos h2, if_pos h2, if_neg (by omega)]
    · rw [if_neg h2, if_neg h2]
/- what is left of the value leads to the sink -/
theorem Net.Flow.leads {N : Net} (ok : N.Ok) {s t : Nat} {f : Nat → Int} (h : N.Flow s t f) (hs : s < N.n) (hp : 0 < N.bal f s) : N.Reach (rest0 f) s t := by
  classical
  refine Classical.byContradiction fun hn => ?_
  obtain ⟨S, hS⟩ : ∃ S : Nat → Bool, ∀ v, S v = true ↔ N.Reach (rest0 f) s v := ⟨fun v => decide (N.Reach (rest0 f) s v), fun v => by simp⟩
  have e := N.over ok h.b hs ((hS s).2 .here) (S := S) (by cases e : S t with | false => rfl | true => exact absurd ((hS t).1 e) hn)
  have : N.bal f s ≤ 0 := by
    rw [e]
    refine Int.le_trans (sumTo_le (g := fun _ => 0) fun i hi => ?_) (Int.le_of_eq (sumTo_zero N.m))
    show (if S (N.fr i) = true ∧ S (N.tt i) = false then f i else 0) - (if S (N.fr i) = false ∧ S (N.tt i) = true then f i else 0) ≤ 0
    have h0 := h.r0 i hi
    by_cases h1 : S (N.fr i) = true ∧ S (N.tt i) = false
    · rw [if_pos h1, if_neg (fun h2 => by rw [h1.1] at h2; cases h2.1)]
      by_cases h3 : 0 < f i
      · have hr : N.Reach (rest0 f) s (N.aT (2 * i)) := .go (2 * i) (by omega) (by rw [rest0_even]; exact h3) (by
          have : N.aF (2 * i) = N.fr i := by unfold Net.aF; rw [if_pos (by omega), show 2 * i / 2 = i by omega]
          rw [this]; exact (hS _).1 h1.1)
        have e2 : N.aT (2 * i) = N.tt i := by unfold Net.aT; rw [if_pos (by omega), show 2 * i / 2 = i by omega]
        rw [e2] at hr
        rw [(hS _).2 hr] at h1
        cases h1.2
      · omega
    · rw [if_neg h1]
      split <;> omega
  omega
/- a path p from v to t has been taken: g is left of f; v is c steps away from s -/
structure Net.Take (N : Net) (t : Nat) (f d g : Nat → Int) (p : List Nat) (v : Nat) (c : Int) : Prop where
  hd : p[0]? = some v
  la : p[p.length - 1]? = some t
  dv : d v = c
  asc : ∀ (i x : Nat), p[i]? = some x → d x = c + i
  lt : ∀ x, x ∈ p → x < N.n
  g0 : ∀ e, e < N.m → 0 ≤ g e
  g1 : ∀ e, e < N.m → g e ≤ f e
  old : ∀ e, e < N.m → d (N.tt e) ≤ c → g e = f e
  bal : ∀ u, N.bal g u = N.bal f u + (if u = t then 1 else 0) - (if u = v then 1 else 0)
  use : ∀ j, N.eS f j - N.eS g j = fc N.n p p.length j
theorem Net.Take.start {N : Net} {t : Nat} {f d : Nat → Int} (ht : t < N.n) (hf : ∀ e, e < N.m → 0 ≤ f e) : N.Take t f d f [t] t (d t) :=
  ⟨rfl, rfl, rfl, fun i x h => by
    have hi := (List.getElem?_eq_some_iff.1 h).1
    obtain rfl : i = 0 := by simpa using hi
    have : t = x := by simpa using h
    subst this; simp, fun x hx => by simp at hx; subst hx; exact ht, hf, fun _ _ => Int.le_refl _, fun _ _ _ => rfl, fun u => by omega, fun j => by
    show _ = fc N.n [t] 0 j + (if 0 < 0 ∧ _ then 1 else 0)
    rw [if_neg (by omega)]
    show _ = (0 : Int) + 0
    omega⟩
theorem Net.Take.step {N : Net} {t : Nat} {f d g : Nat → Int} {p : List Nat} {v e : Nat} {c : Int} (h : N.Take t f d g p v c) (ok : N.Ok) (he : e < N.m) (hT : N.tt e = v) (hd : d (N.fr e) = c - 1) (hp : 0 < g e) :
    N.Take t f d (dec1 g e) (N.fr e :: p) (N.fr e) (c - 1) := by
  have hl : 0 < p.length := (List.getElem?_eq_some_iff.1 h.hd).1
  have h0 : p.getD 0 0 = v := by rw [List.getD_eq_getElem?_getD, h.hd]; rfl
  refine ⟨rfl, ?_, hd, fun i x hi => ?_, fun x hx => ?_, fun i hi => ?_, fun i hi => ?_, fun i hi hc => ?_, fun u => ?_, fun j => ?_⟩
  · have := h.la
    rw [show (N.fr e :: p).length - 1 = (p.length - 1) + 1 by simp; omega, List.getElem?_cons_succ]; exact this
  · cases i with
    | zero =>
      have : N.fr e = x := by simpa using hi
      subst this; rw [hd]; omega
    | succ i =>
      have := h.asc i x (by simpa using hi)
      rw [this]; omega
  · rcases List.mem_cons.1 hx with rfl | h2
    · exact ok.fr e he
    · exact h.lt x h2
  · unfold dec1; split
    · omega
    · exact h.g0 i hi
  · have h1 := h.g1 i hi
    unfold dec1; split
    · next h2 => subst h2; omega
    · exact h1
  · unfold dec1; rw [if_neg (fun h2 => by subst h2; rw [hT, h.dv] at hc; omega)]
    exact h.old i hi (by omega)
  · rw [N.bal_dec g he, h.bal u, hT]
    by_cases h1 : N.fr e = u <;> by_cases h2 : v = u <;> simp [h1, h2, eq_comm] <;> omega
  · have := h.use j
    rw [N.eS_dec g he, List.length_cons, fc_cons, h0, hT]
    simp only [hl, true_and]
    omega
/- the path is whole -/
structure Net.Path (N : Net) (s t : Nat) (p : List Nat) : Prop where
  hd : p[0]? = some s
  la : p[p.length - 1]? = some t
  l2 : 2 ≤ p.length
  ln : p.length ≤ N.n
  nd : p.Nodup
  lt : ∀ x, x ∈ p → x < N.n
theorem Net.Take.done {N : Net} {s t v : Nat} {f d g : Nat → Int} {p : List Nat} (h : N.Take t f d g p v 0) (hs : ∀ v, v < N.n → d v = 0 → v = s) (hst : s ≠ t) (hf : N.Flow s t f) : N.Path s t p ∧ N.Flow s t g ∧ N.bal g s = N.bal f s - 1 := by
  have hl : 0 < p.length := (List.getElem?_eq_some_iff.1 h.hd).1
  have hvm : v ∈ p := List.mem_iff_getElem?.2 ⟨0, h.hd⟩
  obtain rfl : v = s := hs v (h.lt v hvm) h.dv
  have hnd : p.Nodup := by
    refine List.pairwise_iff_getElem.2 fun i j hi hj hij he => ?_
    have e1 := h.asc i p[i] (List.getElem?_eq_getElem hi)
    have e2 := h.asc j p[j] (List.getElem?_eq_getElem hj)
    rw [he] at e1
    omega
  refine ⟨⟨h.hd, h.la, ?_, nodup_len _ _ hnd h.lt, hnd, h.lt⟩, ⟨h.g0, fun i hi => Int.le_trans (h.g1 i hi) (hf.r1 i hi), fun u hu h1 h2 => by rw [h.bal u, if_neg h2, if_neg h1, hf.b u hu h1 h2]; rfl⟩, by rw [h.bal v, if_neg hst, if_pos rfl]; omega⟩
  refine Classical.byContradiction fun hn => ?_
  have e : p.length - 1 = 0 := by omega
  have h1 := h.la
  rw [e, h.hd] at h1
  exact hst (Option.some.inj h1)
/- there is an arc that leads on -/
theorem Net.Take.next {N : Net} {s t v : Nat} {f d g : Nat → Int} {p : List Nat} {c : Int} (h : N.Take t f d g p v c) (hd : N.Dst (rest0 f) s d) (hv : v < N.n) (hc : 1 ≤ c) : ∃ e, e < N.m ∧ N.tt e = v ∧ d (N.fr e) = c - 1 ∧ 0 < g e := by
  obtain ⟨k, k1, k2, k3, k4⟩ := hd.pred v hv (by rw [h.dv]; exact hc)
  by_cases hk : k % 2 = 0
  · obtain ⟨e, rfl⟩ : ∃ e, k = 2 * e := ⟨k / 2, by omega⟩
    rw [rest0_even] at k2
    have e1 : N.aT (2 * e) = N.tt e := by unfold Net.aT; rw [if_pos (by omega), show 2 * e / 2 = e by omega]
    have e2 : N.aF (2 * e) = N.fr e := by unfold Net.aF; rw [if_pos (by omega), show 2 * e / 2 = e by omega]
    rw [e1] at k3
    rw [e2, h.dv] at k4
    refine ⟨e, by omega, k3, k4, ?_⟩
    rw [h.old e (by omega) (by rw [k3, h.dv]; exact Int.le_refl _)]; exact k2
  · unfold rest0 at k2
    rw [if_neg hk] at k2; omega
end Go.Proofs.Ytjdceafkcakbjaa
