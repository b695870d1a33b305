/- Mathematics of networks: sums, balances, cuts, arcs, what is reached. -/
namespace Go.Proofs.Ytjdceafkcakbjaa
def sumTo : Nat → (Nat → Int) → Int
  | 0, _ => 0
  | m + 1, f => sumTo m f + f m
theorem sumTo_congr {f g : Nat → Int} : ∀ {m : Nat}, (∀ i, i < m → f i = g i) → sumTo m f = sumTo m g
  | 0, _ => rfl
  | m + 1, h => by show sumTo m f + f m = sumTo m g + g m; rw [sumTo_congr (fun i hi => h i (by omega)), h m (by omega)]
theorem sumTo_le {f g : Nat → Int} : ∀ {m : Nat}, (∀ i, i < m → f i ≤ g i) → sumTo m f ≤ sumTo m g
  | 0, _ => Int.le_refl _
  | m + 1, h => by
    have h1 := sumTo_le (m := m) (fun i hi => h i (by omega))
    have h2 := h m (by omega)
    show sumTo m f + f m ≤ sumTo m g + g m; omega
theorem sumTo_eq {f g : Nat → Int} : ∀ {m : Nat}, (∀ i, i < m → f i ≤ g i) → sumTo m f = sumTo m g → ∀ i, i < m → f i = g i
  | 0, _, _, i, hi => absurd hi (Nat.not_lt_zero _)
  | m + 1, h, e, i, hi => by
    have h1 := sumTo_le (m := m) (fun i hi => h i (by omega))
    have h2 := h m (by omega)
    have e' : sumTo m f + f m = sumTo m g + g m := e
    by_cases him : i = m
    · subst him; omega
    · exact sumTo_eq (m := m) (fun i hi => h i (by omega)) (by omega) i (by omega)
theorem sumTo_add (f g : Nat → Int) : ∀ m : Nat, sumTo m (fun i => f i + g i) = sumTo m f + sumTo m g
  | 0 => rfl
  | m + 1 => by
    have := sumTo_add f g m
    show sumTo m _ + (f m + g m) = (sumTo m f + f m) + (sumTo m g + g m); omega
theorem sumTo_sub (f g : Nat → Int) : ∀ m : Nat, sumTo m (fun i => f i - g i) = sumTo m f - sumTo m g
  | 0 => rfl
  | m + 1 => by
    have := sumTo_sub f g m
    show sumTo m _ + (f m - g m) = (sumTo m f + f m) - (sumTo m g + g m); omega
theorem sumTo_zero : ∀ m : Nat, sumTo m (fun _ => 0) = 0
  | 0 => rfl
  | m + 1 => by show sumTo m _ + 0 = 0; rw [sumTo_zero m]; rfl
theorem sumTo_nonneg {f : Nat → Int} {m : Nat} (h : ∀ i, i < m → 0 ≤ f i) : 0 ≤ sumTo m f := by
  have := sumTo_le (f := fun _ => 0) h
  rw [sumTo_zero] at this; exact this
theorem sumTo_bound {f : Nat → Int} {C : Int} : ∀ {m : Nat}, (∀ i, i < m → f i ≤ C) → sumTo m f ≤ m * C
  | 0, _ => by simp [sumTo]
  | m + 1, h => by
    have h1 := sumTo_bound (m := m) (fun i hi => h i (by omega))
    have h2 := h m (by omega)
    have e : ((m + 1 : Nat) : Int) * C = m * C + C := by rw [show ((m + 1 : Nat) : Int) = (m : Int) + 1 by omega, Int.add_mul, Int.one_mul]
    show sumTo m f + f m ≤ _
    omega
theorem sumTo_swap (h : Nat → Nat → Int) (m : Nat) : ∀ n : Nat, sumTo n (fun v => sumTo m (fun i => h v i)) = sumTo m (fun i => sumTo n (fun v => h v i))
  | 0 => (sumTo_zero m).symm
  | n + 1 => by
    show sumTo n _ + sumTo m (fun i => h n i) = sumTo m (fun i => sumTo n (fun v => h v i) + h n i)
    rw [sumTo_swap h m n, sumTo_add]
theorem sumTo_one (a : Nat) (x : Int) : ∀ n : Nat, sumTo n (fun v => if v = a then x else 0) = if a < n then x else 0
  | 0 => rfl
  | n + 1 => by
    show sumTo n _ + (if n = a then x else 0) = _
    rw [sumTo_one a x n]
    by_cases h : n = a
    · rw [if_neg (by omega), if_pos h, if_pos (by omega)]; omega
    · rw [if_neg h]
      by_cases h2 : a < n
      · rw [if_pos h2, if_pos (by omega)]; omega
      · rw [if_neg h2, if_neg (by omega)]; rfl
/- a sum with one term changed -/
theorem sumTo_upd {f g : Nat → Int} (a : Nat) (h : ∀ i, i ≠ a → g i = f i) : ∀ {m : Nat}, a < m → sumTo m g = sumTo m f + (g a - f a)
  | 0, ha => absurd ha (Nat.not_lt_zero _)
  | m + 1, ha => by
    show sumTo m g + g m = sumTo m f + f m + (g a - f a)
    by_cases e : a = m
    · subst e
      rw [sumTo_congr (m := a) (f := g) (g := f) (fun i hi => h i (by omega))]; omega
    · have := sumTo_upd a h (m := m) (by omega)
      have := h m (by omega)
      omega
/- networks -/
structure Net where
  n : Nat
  m : Nat
  fr : Nat → Nat
  tt : Nat → Nat
  cp : Nat → Int
structure Net.Ok (N : Net) : Prop where
  n1 : 1 ≤ N.n
  n2 : N.n ≤ 512
  m2 : N.m ≤ 2000
  fr : ∀ i, i < N.m → N.fr i < N.n
  tt : ∀ i, i < N.m → N.tt i < N.n
  ne : ∀ i, i < N.m → N.fr i ≠ N.tt i
  c0 : ∀ i, i < N.m → 0 ≤ N.cp i
  c1 : ∀ i, i < N.m → N.cp i ≤ 1125899906842624
def Net.bal (N : Net) (g : Nat → Int) (v : Nat) : Int := sumTo N.m fun i => (if N.fr i = v then g i else 0) - (if N.tt i = v then g i else 0)
def Net.capS (N : Net) (S : Nat → Bool) : Int := sumTo N.m fun i => if S (N.fr i) = true ∧ S (N.tt i) = false then N.cp i else 0
structure Net.Flow (N : Net) (s t : Nat) (g : Nat → Int) : Prop where
  r0 : ∀ i, i < N.m → 0 ≤ g i
  r1 : ∀ i, i < N.m → g i ≤ N.cp i
  b : ∀ v, v < N.n → v ≠ s → v ≠ t → N.bal g v = 0
theorem Net.bal_congr {N : Net} {g h : Nat → Int} (e : ∀ i, i < N.m → g i = h i) (v : Nat) : N.bal g v = N.bal h v :=
  sumTo_congr fun i hi => by rw [e i hi]
/- the value of a flow, over a cut -/
theorem Net.over {N : Net} (ok : N.Ok) {s t : Nat} {g : Nat → Int} (hb : ∀ v, v < N.n → v ≠ s → v ≠ t → N.bal g v = 0) (hs : s < N.n) {S : Nat → Bool} (h1 : S s = true) (h2 : S t = false) :
    N.bal g s = sumTo N.m fun i => (if S (N.fr i) = true ∧ S (N.tt i) = false then g i else 0) - (if S (N.fr i) = false ∧ S (N.tt i) = true then g i else 0) := by
  have e1 : sumTo N.n (fun v => if S v = true then N.bal g v else 0) = N.bal g s := by
    rw [sumTo_congr (g := fun v => if v = s then N.bal g s else 0), sumTo_one, if_pos hs]
    intro v hv
    by_cases e : v = s
    · subst e; rw [if_pos h1, if_pos rfl]
    · rw [if_neg e]
      by_cases hS : S v = true
      · rw [if_pos hS]
        exact hb v hv e (fun e => by subst e; rw [h2] at hS; cases hS)
      · rw [if_neg hS]
  rw [← e1]
  have e2 : sumTo N.n (fun v => if S v = true then N.bal g v else 0) = sumTo N.n (fun v => sumTo N.m (fun i => if S v = true then (if N.fr i = v then g i else 0) - (if N.tt i = v then g i else 0) else 0)) := by
    refine sumTo_congr fun v _ => ?_
    by_cases hS : S v = true
    · rw [if_pos hS]; exact sumTo_congr fun i _ => by rw [if_pos hS]
    · rw [if_neg hS]; exact (sumTo_zero N.m).symm.trans (sumTo_congr fun i _ => by rw [if_neg hS])
  rw [e2, sumTo_swap]
  refine sumTo_congr fun i hi => ?_
  have hf := ok.fr i hi
  have ht := ok.tt i hi
  rw [sumTo_congr (g := fun v => (if v = N.fr i then (if S (N.fr i) = true then g i else 0) else 0) - (if v = N.tt i then (if S (N.tt i) = true then g i else 0) else 0)), sumTo_sub, sumTo_one, sumTo_one, if_pos hf, if_pos ht]
  · cases h3 : S (N.fr i) <;> cases h4 : S (N.tt i) <;> simp
  · intro v _
    by_cases hS : S v = true
    · rw [if_pos hS]
      congr 1
      · by_cases e : N.fr i = v
        · rw [if_pos e, if_pos e.symm, e, if_pos hS]
        · rw [if_neg e, if_neg (Ne.symm e)]
      · by_cases e : N.tt i = v
        · rw [if_pos e, if_pos e.symm, e, if_pos hS]
        · rw [if_neg e, if_neg (Ne.symm e)]
    · rw [if_neg hS]
      by_cases e : v = N.fr i
      · subst e
        rw [if_pos rfl, if_neg hS]
        by_cases e : N.fr i = N.tt i
        · rw [← e, if_pos rfl, if_neg hS]; rfl
        · rw [if_neg e]; rfl
      · rw [if_neg e]
        by_cases e : v = N.tt i
        · subst e; rw [if_pos rfl, if_neg hS]; rfl
        · rw [if_neg e]; rfl
theorem Net.weak {N : Net} (ok : N.Ok) {s t : Nat} {g : Nat → Int} (hg : N.Flow s t g) (hs : s < N.n) {S : Nat → Bool} (h1 : S s = true) (h2 : S t = false) : N.bal g s ≤ N.capS S := by
  rw [Net.over ok hg.b hs h1 h2]
  refine sumTo_le fun i hi => ?_
  have a := hg.r0 i hi
  have b := hg.r1 i hi
  cases h3 : S (N.fr i) <;> cases h4 : S (N.tt i) <;> simp <;> omega
theorem Net.tight {N : Net} (ok : N.Ok) {s t : Nat} {g : Nat → Int} (hg : N.Flow s t g) (hs : s < N.n) {S : Nat → Bool} (h1 : S s = true) (h2 : S t = false) (he : N.bal g s = N.capS S) :
    ∀ i, i < N.m → (S (N.fr i) = true → S (N.tt i) = false → g i = N.cp i) ∧ (S (N.fr i) = false → S (N.tt i) = true → g i = 0) := by
  rw [Net.over ok hg.b hs h1 h2] at he
  have := sumTo_eq (m := N.m) (fun i hi => by
    have a := hg.r0 i hi
    have b := hg.r1 i hi
    show _ ≤ (if S (N.fr i) = true ∧ S (N.tt i) = false then N.cp i else 0)
    cases h3 : S (N.fr i) <;> cases h4 : S (N.tt i) <;> simp <;> omega) he
  intro i hi
  have h := this i hi
  constructor
  · intro h3 h4; simp [h3, h4] at h; exact h
  · intro h3 h4; simp [h3, h4] at h; omega
theorem Net.tight_of {N : Net} (ok : N.Ok) {s t : Nat} {g : Nat → Int} (hg : N.Flow s t g) (hs : s < N.n) {S : Nat → Bool} (h1 : S s = true) (h2 : S t = false)
    (h : ∀ i, i < N.m → (S (N.fr i) = true → S (N.tt i) = false → g i = N.cp i) ∧ (S (N.fr i) = false → S (N.tt i) = true → g i = 0)) : N.bal g s = N.capS S := by
  rw [Net.over ok hg.b hs h1 h2]
  refine sumTo_congr fun i hi => ?_
  have := h i hi
  cases h3 : S (N.fr i) <;> cases h4 : S (N.tt i) <;> simp [h3, h4] at this ⊢ <;> exact this
/- arcs -/
def Net.aF (N : Net) (k : Nat) : Nat := if k % 2 = 0 then N.fr (k / 2) else N.tt (k / 2)
def Net.aT (N : Net) (k : Nat) : Nat := if k % 2 = 0 then N.tt (k / 2) else N.fr (k / 2)
def bk (k : Nat) : Nat := if k % 2 = 0 then k + 1 else k - 1
theorem bk_bk (k : Nat) : bk (bk k) = k := by
  unfold bk
  by_cases h : k % 2 = 0
  · rw [if_pos h, if_neg (by omega)]; omega
  · rw [if_neg h, if_pos (by omega)]; omega
theorem bk_ne (k : Nat) : bk k ≠ k := by
  unfold bk
  by_cases h : k % 2 = 0
  · rw [if_pos h]; omega
  · rw [if_neg h]; omega
theorem bk_lt {k m : Nat} (h : k < 2 * m) : bk k < 2 * m := by
  unfold bk
  by_cases h : k % 2 = 0
  · rw [if_pos h]; omega
  · rw [if_neg h]; omega
theorem Net.aF_bk (N : Net) (k : Nat) : N.aF (bk k) = N.aT k := by
  unfold Net.aF Net.aT bk
  by_cases h : k % 2 = 0
  · rw [if_pos h, if_pos h, if_neg (by omega), show (k + 1) / 2 = k / 2 by omega]
  · rw [if_neg h, if_neg h, if_pos (by omega), show (k - 1) / 2 = k / 2 by omega]
theorem Net.aT_bk (N : Net) (k : Nat) : N.aT (bk k) = N.aF k := by
  have := N.aF_bk (bk k); rw [bk_bk] at this; exact this.symm
theorem Net.Ok.aF {N : Net} (ok : N.Ok) {k : Nat} (h : k < 2 * N.m) : N.aF k < N.n := by
  unfold Net.aF
  by_cases e : k % 2 = 0
  · rw [if_pos e]; exact ok.fr _ (by omega)
  · rw [if_neg e]; exact ok.tt _ (by omega)
theorem Net.Ok.aT {N : Net} (ok : N.Ok) {k : Nat} (h : k < 2 * N.m) : N.aT k < N.n := by
  rw [← N.aF_bk]; exact ok.aF (bk_lt h)
theorem Net.Ok.aFT {N : Net} (ok : N.Ok) {k : Nat} (h : k < 2 * N.m) : N.aF k ≠ N.aT k := by
  unfold Net.aF Net.aT
  by_cases e : k % 2 = 0
  · rw [if_pos e, if_pos e]; exact ok.ne _ (by omega)
  · rw [if_neg e, if_neg e]; exact (ok.ne _ (by omega)).symm
/- the last arc before K from v -/
def Net.la (N : Net) (v : Nat) : Nat → Int
  | 0 => -1
  | K + 1 => if N.aF K = v then (K : Int) else N.la v K
theorem Net.la_lt (N : Net) (v : Nat) : ∀ K : Nat, N.la v K < K ∧ -1 ≤ N.la v K
  | 0 => by simp [Net.la]
  | K + 1 => by
    unfold Net.la
    by_cases e : N.aF K = v
    · rw [if_pos e]; omega
    · rw [if_neg e]; have := N.la_lt v K; omega
theorem Net.la_at (N : Net) (v : Nat) : ∀ K : Nat, N.la v K ≠ -1 → ∃ k : Nat, N.la v K = (k : Int) ∧ k < K ∧ N.aF k = v
  | 0, h => absurd rfl h
  | K + 1, h => by
    unfold Net.la at h ⊢
    by_cases e : N.aF K = v
    · rw [if_pos e]; exact ⟨K, rfl, by omega, e⟩
    · rw [if_neg e] at h ⊢
      obtain ⟨k, h1, h2, h3⟩ := N.la_at v K h
      exact ⟨k, h1, by omega, h3⟩
theorem Net.la_gap (N : Net) (v : Nat) : ∀ (K k : Nat), k < K → N.la v K < (k : Int) → N.aF k ≠ v
  | 0, k, h, _ => absurd h (Nat.not_lt_zero _)
  | K + 1, k, h, hl => by
    unfold Net.la at hl
    by_cases e : N.aF K = v
    · rw [if_pos e] at hl; omega
    · rw [if_neg e] at hl
      by_cases hk : k = K
      · subst hk; exact e
      · exact N.la_gap v K k (by omega) hl
theorem Net.la_congr (N : Net) (v : Nat) : ∀ (K J : Nat), J ≤ K → (∀ k, J ≤ k → k < K → N.aF k ≠ v) → N.la v K = N.la v J
  | 0, J, h, _ => by obtain rfl : J = 0 := by omega
                     rfl
  | K + 1, J, h, hk => by
    by_cases e : J = K + 1
    · subst e; rfl
    · have e2 : N.la v (K + 1) = N.la v K := by
        show (if N.aF K = v then (K : Int) else N.la v K) = _
        rw [if_neg (hk K (by omega) (by omega))]
      rw [e2]
      exact N.la_congr v K J (by omega) (fun k h1 h2 => hk k h1 (by omega))
/- rests -/
structure Net.Rest (N : Net) (C : Nat → Int) (R : Nat → Int) : Prop where
  r0 : ∀ k, k < 2 * N.m → 0 ≤ R k
  pr : ∀ i, i < N.m → R (2 * i) + R (2 * i + 1) = C i
def Net.ex (N : Net) (R : Nat → Int) (v : Nat) : Int := N.bal (fun i => R (2 * i + 1)) v
def sent1 (R : Nat → Int) (k : Nat) (p : Int) : Nat → Int := fun j => if j = k then R k - p else if j = bk k then R (bk k) + p else R j
theorem Net.Rest.pair {N : Net} {C R : Nat → Int} (h : N.Rest C R) {k : Nat} (hk : k < 2 * N.m) : R k + R (bk k) = C (k / 2) := by
  unfold bk
  by_cases e : k % 2 = 0
  · rw [if_pos e, ← h.pr (k / 2) (by omega), show 2 * (k / 2) = k by omega]
  · rw [if_neg e, ← h.pr (k / 2) (by omega), show 2 * (k / 2) + 1 = k by omega, show 2 * (k / 2) = k - 1 by omega]; omega
theorem Net.Rest.sent1 {N : Net} {C R : Nat → Int} (h : N.Rest C R) {k : Nat} (hk : k < 2 * N.m) {p : Int} (h0 : 0 ≤ p) (h1 : p ≤ R k) : N.Rest C (sent1 R k p) := by
  have hp := h.pair hk
  have hb := h.r0 _ (bk_lt hk)
  refine ⟨fun j hj => ?_, fun i hi => ?_⟩
  · unfold Ytjdceafkcakbjaa.sent1
    by_cases e : j = k
    · rw [if_pos e]; omega
    · rw [if_neg e]
      by_cases e2 : j = bk k
      · rw [if_pos e2]; omega
      · rw [if_neg e2]; exact h.r0 j hj
  · have hpr := h.pr i hi
    by_cases e : 2 * i = k
    · have hbk : bk k = 2 * i + 1 := by subst e; unfold bk; rw [if_pos (by omega)]
      unfold Ytjdceafkcakbjaa.sent1
      rw [if_pos e, hbk, if_neg (by omega), if_pos rfl, ← e]; omega
    · by_cases e2 : 2 * i + 1 = k
      · have hbk : bk k = 2 * i := by subst e2; unfold bk; rw [if_neg (by omega)]; omega
        unfold Ytjdceafkcakbjaa.sent1
        rw [if_neg e, hbk, if_pos rfl, if_pos e2, ← e2]; omega
      · have hb1 : ¬ 2 * i = bk k := fun h => e2 (by have := congrArg bk h; rw [bk_bk] at this; rw [← this]; unfold bk; rw [if_pos (by omega)])
        have hb2 : ¬ 2 * i + 1 = bk k := fun h => e (by have := congrArg bk h; rw [bk_bk] at this; rw [← this]; unfold bk; rw [if_neg (by omega)]; omega)
        unfold Ytjdceafkcakbjaa.sent1
        rw [if_neg e, if_neg hb1, if_neg e2, if_neg hb2]; exact hpr
theorem Net.ex_sent1 {N : Net} (ok : N.Ok) (R : Nat → Int) {k : Nat} (hk : k < 2 * N.m) (p : Int) (v : Nat) :
    N.ex (sent1 R k p) v = N.ex R v + (if v = N.aF k then p else 0) - (if v = N.aT k then p else 0) := by
  have hne := ok.ne (k / 2) (by omega)
  unfold Net.ex Net.bal
  show sumTo N.m (fun i => (if N.fr i = v then Ytjdceafkcakbjaa.sent1 R k p (2 * i + 1) else 0) - (if N.tt i = v then Ytjdceafkcakbjaa.sent1 R k p (2 * i + 1) else 0)) = sumTo N.m (fun i => (if N.fr i = v then R (2 * i + 1) else 0) - (if N.tt i = v then R (2 * i + 1) else 0)) + (if v = N.aF k then p else 0) - (if v = N.aT k then p else 0)
  rw [sumTo_upd (k / 2) (f := fun i => (if N.fr i = v then R (2 * i + 1) else 0) - (if N.tt i = v then R (2 * i + 1) else 0)) ?_ (show k / 2 < N.m by omega)]
  · by_cases e : k % 2 = 0
    · have hv : Ytjdceafkcakbjaa.sent1 R k p (2 * (k / 2) + 1) = R (2 * (k / 2) + 1) + p := by
        have hb : bk k = 2 * (k / 2) + 1 := by unfold bk; rw [if_pos e]; omega
        unfold Ytjdceafkcakbjaa.sent1; rw [if_neg (by omega), hb, if_pos rfl]
      unfold Net.aF Net.aT
      rw [if_pos e, if_pos e, hv]
      by_cases e1 : N.fr (k / 2) = v
      · rw [if_pos e1, if_pos e1, if_pos e1.symm, if_neg (fun h => hne (e1.trans h.symm)), if_neg (fun h => hne (e1.trans h.symm)), if_neg (fun h => hne (e1.trans h))]; omega
      · rw [if_neg e1, if_neg e1, if_neg (Ne.symm e1)]
        by_cases e2 : N.tt (k / 2) = v
        · rw [if_pos e2, if_pos e2, if_pos e2.symm]; omega
        · rw [if_neg e2, if_neg e2, if_neg (Ne.symm e2)]; omega
    · have hv : Ytjdceafkcakbjaa.sent1 R k p (2 * (k / 2) + 1) = R (2 * (k / 2) + 1) - p := by
        have hb : 2 * (k / 2) + 1 = k := by omega
        unfold Ytjdceafkcakbjaa.sent1; rw [if_pos hb, hb]
      unfold Net.aF Net.aT
      rw [if_neg e, if_neg e, hv]
      by_cases e1 : N.fr (k / 2) = v
      · rw [if_pos e1, if_pos e1, if_pos e1.symm, if_neg (fun h => hne (e1.trans h.symm)), if_neg (fun h => hne (e1.trans h.symm)), if_neg (fun h => hne (e1.trans h))]; omega
      · rw [if_neg e1, if_neg e1, if_neg (Ne.symm e1)]
        by_cases e2 : N.tt (k / 2) = v
        · rw [if_pos e2, if_pos e2, if_pos e2.symm]; omega
        · rw [if_neg e2, if_neg e2, if_neg (Ne.symm e2)]; omega
  · intro i hi
    have h1 : ¬ 2 * i + 1 = k := by omega
    have h2 : ¬ 2 * i + 1 = bk k := by unfold bk; by_cases e : k % 2 = 0
                                       · rw [if_pos e]; omega
                                       · rw [if_neg e]; omega
    show (if N.fr i = v then Ytjdceafkcakbjaa.sent1 R k p (2 * i + 1) else 0) - (if N.tt i = v then Ytjdceafkcakbjaa.sent1 R k p (2 * i + 1) else 0) = _
    have h3 : Ytjdceafkcakbjaa.sent1 R k p (2 * i + 1) = R (2 * i + 1) := by unfold Ytjdceafkcakbjaa.sent1; rw [if_neg h1, if_neg h2]
    rw [h3]
/- what is reached -/
inductive Net.Reach (N : Net) (R : Nat → Int) (s : Nat) : Nat → Prop where
  | here : Net.Reach N R s s
  | go (k : Nat) (hk : k < 2 * N.m) (hr : 0 < R k) (h : Net.Reach N R s (N.aF k)) : Net.Reach N R s (N.aT k)
def flowOf (R : Nat → Int) : Nat → Int := fun i => R (2 * i + 1)
/- a rest of the capacities without a way from s to t: a greatest flow and the nearest cut -/
structure Net.Done (N : Net) (s t : Nat) (R : Nat → Int) : Prop where
  rest : N.Rest N.cp R
  bal : ∀ v, v < N.n → v ≠ s → v ≠ t → N.ex R v = 0
  no : ¬ N.Reach R s t
theorem Net.Done.flow {N : Net} {s t : Nat} {R : Nat → Int} (h : N.Done s t R) : N.Flow s t (flowOf R) :=
  ⟨fun i hi => h.rest.r0 _ (by omega), fun i hi => by have := h.rest.pr i hi; have := h.rest.r0 (2 * i) (by omega); unfold flowOf; omega, h.bal⟩
theorem Net.Done.cap {N : Net} (ok : N.Ok) {s t : Nat} {R : Nat → Int} (h : N.Done s t R) (hs : s < N.n) {S : Nat → Bool} (hS : ∀ v, S v = true ↔ N.Reach R s v) : N.bal (flowOf R) s = N.capS S := by
  refine Net.tight_of ok h.flow hs ((hS s).2 .here) (by cases e : S t with | false => rfl | true => exact absurd ((hS t).1 e) h.no) fun i hi => ⟨fun h1 h2 => ?_, fun h1 h2 => ?_⟩
  · have hk : ¬ 0 < R (2 * i) := fun hr => by
      have := Net.Reach.go (N := N) (s := s) (2 * i) (by omega) hr (by unfold Net.aF; rw [if_pos (by omega), show 2 * i / 2 = i by omega]; exact (hS _).1 h1)
      unfold Net.aT at this
      rw [if_pos (by omega), show 2 * i / 2 = i by omega] at this
      rw [(hS _).2 this] at h2; cases h2
    have := h.rest.pr i hi
    have := h.rest.r0 (2 * i) (by omega)
    unfold flowOf; omega
  · have hk : ¬ 0 < R (2 * i + 1) := fun hr => by
      have := Net.Reach.go (N := N) (s := s) (2 * i + 1) (by omega) hr (by unfold Net.aF; rw [if_neg (by omega), show (2 * i + 1) / 2 = i by omega]; exact (hS _).1 h2)
      unfold Net.aT at this
      rw [if_neg (by omega), show (2 * i + 1) / 2 = i by omega] at this
      rw [(hS _).2 this] at h1; cases h1
    have := h.rest.r0 (2 * i + 1) (by omega)
    unfold flowOf; omega
theorem Net.Done.near {N : Net} (ok : N.Ok) {s t : Nat} {R : Nat → Int} (h : N.Done s t R) (hs : s < N.n) {S : Nat → Bool} (h1 : S s = true) (h2 : S t = false) (he : N.bal (flowOf R) s = N.capS S) : ∀ v, N.Reach R s v → S v = true := by
  intro v hv
  have ht := Net.tight ok h.flow hs h1 h2 he
  induction hv with
  | here => exact h1
  | go k hk hr _ ih =>
    cases e : S (N.aT k) with
    | true => rfl
    | false =>
      exfalso
      have hi := ht (k / 2) (by omega)
      have hp := h.rest.pr (k / 2) (by omega)
      unfold Net.aT at e
      unfold Net.aF at ih
      by_cases ek : k % 2 = 0
      · rw [if_pos ek] at e ih
        have := hi.1 ih e
        unfold flowOf at this
        rw [show 2 * (k / 2) = k by omega] at hp this
        omega
      · rw [if_neg ek] at e ih
        have := hi.2 e ih
        unfold flowOf at this
        rw [show 2 * (k / 2) + 1 = k by omega] at this
        omega
/- distances -/
structure Net.Dst (N : Net) (R : Nat → Int) (s : Nat) (d : Nat → Int) : Prop where
  d0 : d s = 0
  rng : ∀ v, v < N.n → d v = -1 ∨ (0 ≤ d v ∧ d v < N.n)
  zero : ∀ v, v < N.n → d v = 0 → v = s
  pred : ∀ v, v < N.n → 1 ≤ d v → ∃ k, k < 2 * N.m ∧ 0 < R k ∧ N.aT k = v ∧ d (N.aF k) = d v - 1
  clos : ∀ k, k < 2 * N.m → 0 < R k → d (N.aF k) ≠ -1 → d (N.aT k) ≠ -1
theorem Net.Dst.reach {N : Net} (ok : N.Ok) {R : Nat → Int} {s : Nat} {d : Nat → Int} (h : N.Dst R s d) {v : Nat} (hv : v < N.n) : d v ≠ -1 ↔ N.Reach R s v := by
  constructor
  · intro hne
    have key : ∀ (j : Nat) (v : Nat), v < N.n → d v = (j : Int) → N.Reach R s v := by
      intro j
      induction j with
      | zero => intro v hv e; rw [h.zero v hv e]; exact .here
      | succ j ih =>
        intro v hv e
        obtain ⟨k, h1, h2, h3, h4⟩ := h.pred v hv (by omega)
        rw [← h3]
        exact .go k h1 h2 (ih _ (ok.aF h1) (by omega))
    rcases h.rng v hv with h1 | h1
    · exact absurd h1 hne
    · exact key (d v).toNat v hv (by omega)
  · intro hr
    induction hr with
    | here => rw [h.d0]; decide
    | go k hk hr _ ih => exact h.clos k hk hr (ih (ok.aF hk))
/- breadth first -/
structure Net.Bf (N : Net) (R : Nat → Int) (s at_ : Nat) (q : List Nat) (d : Nat → Int) : Prop where
  q0 : q[0]? = some s
  nd : q.Nodup
  mem : ∀ v, v < N.n → (v ∈ q ↔ d v ≠ -1)
  lt : ∀ v, v ∈ q → v < N.n
  key : ∀ (i v : Nat), q[i]? = some v → 0 ≤ d v ∧ d v ≤ i
  zero : ∀ v, v < N.n → d v = 0 → v = s
  d0 : d s = 0
  pred : ∀ v, v < N.n → 1 ≤ d v → ∃ k, k < 2 * N.m ∧ 0 < R k ∧ N.aT k = v ∧ d (N.aF k) = d v - 1
  clos : ∀ (i v : Nat), i < at_ → q[i]? = some v → ∀ k, k < 2 * N.m → N.aF k = v → 0 < R k → d (N.aT k) ≠ -1
theorem bf_start {N : Net} {R : Nat → Int} {s : Nat} (hs : s < N.n) : N.Bf R s 0 [s] (fun v => if v = s then 0 else -1) := by
  refine ⟨rfl, by simp, fun v hv => ?_, fun v hv => ?_, fun i v h => ?_, fun v _ h => ?_, by simp, fun v _ h => ?_, fun i v h => absurd h (Nat.not_lt_zero _)⟩
  · by_cases e : v = s <;> simp [e]
  · simp at hv; subst hv; exact hs
  · have hi : i = 0 := by
      have := (List.getElem?_eq_some_iff.1 h).1
      simp at this; exact this
    subst hi
    simp at h; subst h; simp
  · by_cases e : v = s
    · exact e
    · rw [if_neg e] at h; omega
  · by_cases e : v = s
    · rw [if_pos e] at h; omega
    · rw [if_neg e] at h; omega
theorem nodup_len : ∀ (n : Nat) (q : List Nat), q.Nodup → (∀ v, v ∈ q → v < n) → q.length ≤ n
  | 0, q, _, h => by
    cases q with
    | nil => exact Nat.le_refl _
    | cons x q => exact absurd (h x (List.mem_cons_self ..)) (Nat.not_lt_zero _)
  | n + 1, q, hn, h => by
    have h1 := nodup_len n (q.erase n) (hn.erase n) (fun v hv => by
      have h2 := h v (List.mem_of_mem_erase hv)
      have h3 : v ≠ n := fun e => by subst e; exact (List.Nodup.not_mem_erase hn) hv
      omega)
    have h2 : q.length ≤ (q.erase n).length + 1 := by
      rw [List.length_erase]; split <;> omega
    omega
theorem Net.Bf.len {N : Net} {R : Nat → Int} {s a : Nat} {q : List Nat} {d : Nat → Int} (h : N.Bf R s a q d) : q.length ≤ N.n := nodup_len _ _ h.nd h.lt
/- the arcs of c behind K have been looked at -/
structure Net.Bi (N : Net) (R : Nat → Int) (s at_ c : Nat) (K : Int) (q : List Nat) (d : Nat → Int) : Prop where
  b : N.Bf R s at_ q d
  qc : q[at_]? = some c
  k : K = -1 ∨ ∃ k : Nat, K = (k : Int) ∧ k < 2 * N.m ∧ N.aF k = c
  seen : ∀ k : Nat, k < 2 * N.m → N.aF k = c → K < (k : Int) → 0 < R k → d (N.aT k) ≠ -1
theorem Net.Bf.begin {N : Net} {R : Nat → Int} {s a c : Nat} {q : List Nat} {d : Nat → Int} (h : N.Bf R s a q d) (hc : q[a]? = some c) : N.Bi R s a c (N.la c (2 * N.m)) q d :=
  ⟨h, hc, by
    by_cases e : N.la c (2 * N.m) = -1
    · exact Or.inl e
    · exact Or.inr (N.la_at c _ e), fun k hk he hl _ => absurd he (N.la_gap c _ k hk hl)⟩
theorem Net.Bi.step {N : Net} {R : Nat → Int} {s a c : Nat} {k : Nat} {q : List Nat} {d : Nat → Int} (h : N.Bi R s a c (k : Int) q d) (hk : 0 < R k → d (N.aT k) ≠ -1) : N.Bi R s a c (N.la c k) q d :=
  ⟨h.b, h.qc, by
    by_cases e : N.la c k = -1
    · exact Or.inl e
    · obtain ⟨j, h1, h2, h3⟩ := N.la_at c _ e
      rcases h.k with h4 | ⟨k', h4, h5, _⟩
      · omega
      · exact Or.inr ⟨j, h1, by omega, h3⟩, fun j hj he hl hr => by
    by_cases e : j = k
    · subst e; exact hk hr
    · by_cases e2 : j < k
      · exact absurd he (N.la_gap c k j e2 hl)
      · exact h.seen j hj he (by omega) hr⟩
theorem Net.Bi.found {N : Net} {R : Nat → Int} {s a c : Nat} {k b : Nat} {q : List Nat} {d : Nat → Int} (h : N.Bi R s a c (k : Int) q d) (hk : k < 2 * N.m) (hb : b < N.n) (hc : N.aF k = c) (ht : N.aT k = b) (hr : 0 < R k) (hd : d b = -1) :
    N.Bi R s a c (k : Int) (q ++ [b]) (fun v => if v = b then d c + 1 else d v) := by
  have hal := (List.getElem?_eq_some_iff.1 h.qc).1
  have hnb : b ∉ q := fun hm => ((h.b.mem b hb).1 hm) hd
  have hkey := h.b.key a c h.qc
  have hcb : c ≠ b := fun e => hnb (by rw [← e]; exact List.mem_iff_getElem?.2 ⟨a, h.qc⟩)
  have hsb : s ≠ b := fun e => by rw [← e, h.b.d0] at hd; omega
  refine ⟨⟨?_, ?_, fun v hv => ?_, fun v hv => ?_, fun i v hi => ?_, fun v hv hz => ?_, ?_, fun v hv h1 => ?_, fun i v hi hq j hj he hrj => ?_⟩, ?_, h.k, fun j hj he hl hrj => ?_⟩
  · rw [List.getElem?_append_left (by omega)]; exact h.b.q0
  · rw [List.nodup_append]
    refine ⟨h.b.nd, by simp, fun x hx y hy => ?_⟩
    simp at hy; subst hy
    exact fun e => hnb (e ▸ hx)
  · by_cases e : v = b
    · subst e; simp; omega
    · rw [if_neg e, ← h.b.mem v hv]; simp [e]
  · rcases List.mem_append.1 hv with h1 | h1
    · exact h.b.lt v h1
    · simp at h1; subst h1; exact hb
  · by_cases hil : i < q.length
    · rw [List.getElem?_append_left hil] at hi
      have hvb : v ≠ b := fun e => hnb (by rw [← e]; exact List.mem_iff_getElem?.2 ⟨i, hi⟩)
      show 0 ≤ (if v = b then _ else _) ∧ (if v = b then _ else _) ≤ _
      rw [if_neg hvb]; exact h.b.key i v hi
    · rw [List.getElem?_append_right (by omega)] at hi
      have hi0 : i - q.length = 0 := by
        have := (List.getElem?_eq_some_iff.1 hi).1
        simp at this; omega
      rw [hi0] at hi
      simp at hi; subst hi
      show 0 ≤ (if b = b then _ else _) ∧ (if b = b then _ else _) ≤ _
      rw [if_pos rfl]; omega
  · by_cases e : v = b
    · simp [e] at hz; omega
    · simp [e] at hz; exact h.b.zero v hv hz
  · show (if s = b then _ else _) = _
    rw [if_neg hsb]; exact h.b.d0
  · by_cases e : v = b
    · refine ⟨k, hk, hr, by rw [ht, e], ?_⟩
      show (if N.aF k = b then _ else _) = (if v = b then _ else _) - 1
      rw [hc, if_neg hcb, if_pos e]; omega
    · have h1' : 1 ≤ d v := by simpa [e] using h1
      obtain ⟨j, j1, j2, j3, j4⟩ := h.b.pred v hv h1'
      refine ⟨j, j1, j2, j3, ?_⟩
      show (if N.aF j = b then _ else _) = (if v = b then _ else _) - 1
      rw [if_neg e, if_neg (fun e2 => by rw [e2, hd] at j4; omega)]; exact j4
  · show (if N.aT j = b then _ else _) ≠ _
    by_cases e : N.aT j = b
    · rw [if_pos e]; omega
    · rw [if_neg e]
      rw [List.getElem?_append_left (by omega)] at hq
      exact h.b.clos i v hi hq j hj he hrj
  · rw [List.getElem?_append_left hal]; exact h.qc
  · show (if N.aT j = b then _ else _) ≠ _
    by_cases e : N.aT j = b
    · rw [if_pos e]; omega
    · rw [if_neg e]; exact h.seen j hj he hl hrj
theorem Net.Bi.done {N : Net} {R : Nat → Int} {s a c : Nat} {q : List Nat} {d : Nat → Int} (h : N.Bi R s a c (-1) q d) : N.Bf R s (a + 1) q d :=
  ⟨h.b.q0, h.b.nd, h.b.mem, h.b.lt, h.b.key, h.b.zero, h.b.d0, h.b.pred, fun i v hi hq k hk he hr => by
    by_cases e : i = a
    · subst e
      rw [h.qc] at hq
      obtain rfl := Option.some.inj hq
      exact h.seen k hk he (by omega) hr
    · exact h.b.clos i v (by omega) hq k hk he hr⟩
theorem Net.Bf.dst {N : Net} (ok : N.Ok) {R : Nat → Int} {s a : Nat} {q : List Nat} {d : Nat → Int} (h : N.Bf R s a q d) (ha : q.length ≤ a) (hm : ∀ v, v < N.n → d v = -1 ∨ 0 ≤ d v) : N.Dst R s d :=
  ⟨h.d0, fun v hv => by
    rcases hm v hv with h1 | h1
    · exact Or.inl h1
    · refine Or.inr ⟨h1, ?_⟩
      obtain ⟨i, hi⟩ := List.mem_iff_getElem?.1 ((h.mem v hv).2 (by omega))
      have := h.key i v hi
      have := (List.getElem?_eq_some_iff.1 hi).1
      have := h.len
      omega, h.zero, h.pred, fun k hk hr hne => by
    obtain ⟨i, hi⟩ := List.mem_iff_getElem?.1 ((h.mem _ (ok.aF hk)).2 hne)
    have := (List.getElem?_eq_some_iff.1 hi).1
    exact h.clos i _ (by omega) hi k hk rfl hr⟩
/- what a phase has found to lead nowhere -/
def Net.Dead (N : Net) (R : Nat → Int) (d : Nat → Int) (t : Nat) (at_ : Nat → Int) : Prop :=
  ∀ k : Nat, k < 2 * N.m → 0 < R k → d (N.aT k) = d (N.aF k) + 1 → at_ (N.aF k) < (k : Int) → N.aT k ≠ t ∧ at_ (N.aT k) = -1
theorem Net.Dead.none {N : Net} (ok : N.Ok) {R d : Nat → Int} {s t : Nat} {at_ : Nat → Int} (h : N.Dead R d t at_) (hd : N.Dst R s d) (hs : at_ s = -1) : ∀ v, v < N.n → 1 ≤ d v → v ≠ t := by
  have key : ∀ (j : Nat) (v : Nat), v < N.n → d v = (j : Int) + 1 → v ≠ t ∧ at_ v = -1 := by
    intro j
    induction j with
    | zero =>
      intro v hv e
      obtain ⟨k, h1, h2, h3, h4⟩ := hd.pred v hv (by omega)
      have hz := hd.zero _ (ok.aF h1) (by omega)
      have := h k h1 h2 (by rw [h3]; omega) (by rw [hz, hs]; omega)
      rw [h3] at this; exact this
    | succ j ih =>
      intro v hv e
      obtain ⟨k, h1, h2, h3, h4⟩ := hd.pred v hv (by omega)
      have hz := (ih _ (ok.aF h1) (by omega)).2
      have := h k h1 h2 (by rw [h3]; omega) (by rw [hz]; omega)
      rw [h3] at this; exact this
  intro v hv h1
  exact (key (d v - 1).toNat v hv (by omega)).1
theorem Net.bal_le {N : Net} {g : Nat → Int} (h0 : ∀ i, i < N.m → 0 ≤ g i) (h1 : ∀ i, i < N.m → g i ≤ N.cp i) (v : Nat) : N.bal g v ≤ sumTo N.m N.cp := by
  refine sumTo_le fun i hi => ?_
  have := h0 i hi
  have := h1 i hi
  show (if N.fr i = v then g i else 0) - (if N.tt i = v then g i else 0) ≤ _
  split <;> split <;> omega
end Go.Proofs.Ytjdceafkcakbjaa
