/- Mathematics of push: what one push does to the rests and to the pointers. -/
import Derived.Test.YtjdceafkcakbjaaFMath
namespace Go.Proofs.Ytjdceafkcakbjaa
def Net.AtOk (N : Net) (A : Nat → Int) : Prop := ∀ v, v < N.n → A v = -1 ∨ ∃ k : Nat, A v = (k : Int) ∧ k < 2 * N.m ∧ N.aF k = v
structure Pushed (N : Net) (C d : Nat → Int) (t a : Nat) (limit : Int) (R A : Nat → Int) (sent : Int) (R' A' : Nat → Int) : Prop where
  s0 : 0 ≤ sent
  s1 : sent ≤ limit
  rest : N.Rest C R'
  ex : ∀ v, N.ex R' v = N.ex R v + (if v = a then sent else 0) - (if v = t then sent else 0)
  fr : ∀ k, k < 2 * N.m → (d (N.aF k) < d a ∨ d (N.aT k) < d a) → R' k = R k
  fa : ∀ v, v < N.n → d v < d a → A' v = A v
  ok : N.AtOk A'
  z : sent = 0 → a ≠ t ∧ A' a = -1 ∧ (∀ k, k < 2 * N.m → R' k = R k) ∧ (N.Dead R d t A → N.Dead R d t A')
structure Pushing (N : Net) (C d : Nat → Int) (t a : Nat) (limit : Int) (R A : Nat → Int) (sent : Int) (R' A' : Nat → Int) : Prop where
  s0 : 0 ≤ sent
  s1 : sent < limit
  rest : N.Rest C R'
  ex : ∀ v, N.ex R' v = N.ex R v + (if v = a then sent else 0) - (if v = t then sent else 0)
  fr : ∀ k, k < 2 * N.m → (d (N.aF k) < d a ∨ d (N.aT k) < d a) → R' k = R k
  fa : ∀ v, v < N.n → d v < d a → A' v = A v
  ok : N.AtOk A'
  z : sent = 0 → (∀ k, k < 2 * N.m → R' k = R k) ∧ (N.Dead R d t A → N.Dead R d t A')
theorem Net.ex_congr {N : Net} {R S : Nat → Int} (h : ∀ k, k < 2 * N.m → R k = S k) (v : Nat) : N.ex R v = N.ex S v :=
  Net.bal_congr (fun i hi => h _ (by omega)) v
theorem Net.Rest.congr {N : Net} {C R S : Nat → Int} (hr : N.Rest C R) (h : ∀ k, k < 2 * N.m → R k = S k) : N.Rest C S :=
  ⟨fun k hk => by rw [← h k hk]; exact hr.r0 k hk, fun i hi => by rw [← h _ (by omega), ← h _ (by omega)]; exact hr.pr i hi⟩
theorem Net.Dead.congr {N : Net} {R S d A : Nat → Int} {t : Nat} (hd : N.Dead R d t A) (h : ∀ k, k < 2 * N.m → R k = S k) : N.Dead S d t A :=
  fun k hk hr => hd k hk (by rw [h k hk]; exact hr)
section
variable {N : Net} {C d : Nat → Int} {t a : Nat} {limit : Int} {R A : Nat → Int} {sent : Int} {R' A' : Nat → Int}
theorem Pushing.start (hr : N.Rest C R) (ha : N.AtOk A) (hl : 0 < limit) : Pushing N C d t a limit R A 0 R A :=
  ⟨Int.le_refl _, hl, hr, fun v => by by_cases h1 : v = a <;> by_cases h2 : v = t <;> simp [h1, h2], fun _ _ _ => rfl, fun _ _ _ => rfl, ha, fun _ => ⟨fun _ _ => rfl, id⟩⟩
theorem Pushing.stop (h : Pushing N C d t a limit R A sent R' A') (ht : a ≠ t) (hA : A' a = -1) : Pushed N C d t a limit R A sent R' A' :=
  ⟨h.s0, Int.le_of_lt h.s1, h.rest, h.ex, h.fr, h.fa, h.ok, fun hz => ⟨ht, hA, (h.z hz).1, (h.z hz).2⟩⟩
theorem at_step {A : Nat → Int} {a k : Nat} (ok : N.AtOk A) (_hk : A a = (k : Int)) (hk2 : k < 2 * N.m) (hf : N.aF k = a) : N.AtOk (fun v => if v = a then N.la (N.aF k) k else A v) := fun v hv => by
  show (if v = a then _ else _) = _ ∨ ∃ j : Nat, (if v = a then _ else _) = _ ∧ _
  by_cases e : v = a
  · rw [if_pos e]
    by_cases e2 : N.la (N.aF k) k = -1
    · exact Or.inl e2
    · obtain ⟨j, h1, h2, h3⟩ := N.la_at _ _ e2
      exact Or.inr ⟨j, h1, by omega, by rw [h3, hf, e]⟩
  · rw [if_neg e]; exact ok v hv
theorem dead_step {R A : Nat → Int} {a k : Nat} (hd : N.Dead R d t A) (hk : A a = (k : Int)) (hf : N.aF k = a) (hne : N.aF k ≠ N.aT k)
    (hx : 0 < R k → d (N.aT k) = d (N.aF k) + 1 → N.aT k ≠ t ∧ A (N.aT k) = -1) : N.Dead R d t (fun v => if v = a then N.la (N.aF k) k else A v) := fun j hj hr hdj hl => by
  have hl' : (if N.aF j = a then N.la (N.aF k) k else A (N.aF j)) < (j : Int) := hl
  show N.aT j ≠ t ∧ (if N.aT j = a then N.la (N.aF k) k else A (N.aT j)) = -1
  have key : N.aT j ≠ t ∧ A (N.aT j) = -1 := by
    by_cases e : N.aF j = a
    · rw [if_pos e] at hl'
      by_cases ejk : j = k
      · subst ejk; exact hx hr hdj
      · by_cases h2 : j < k
        · exact absurd (e.trans hf.symm) (N.la_gap _ k j h2 hl')
        · exact hd j hj hr hdj (by rw [e, hk]; omega)
    · rw [if_neg e] at hl'; exact hd j hj hr hdj hl'
  refine ⟨key.1, ?_⟩
  by_cases e : N.aT j = a
  · have := key.2; rw [e, hk] at this; omega
  · rw [if_neg e]; exact key.2
theorem Pushing.skip (h : Pushing N C d t a limit R A sent R' A') {k : Nat} (hk : A' a = (k : Int)) (hk2 : k < 2 * N.m) (hf : N.aF k = a) (ok : N.Ok) (hno : ¬ (0 < R' k ∧ d (N.aT k) = d a + 1)) :
    Pushing N C d t a limit R A sent R' (fun v => if v = a then N.la (N.aF k) k else A' v) :=
  ⟨h.s0, h.s1, h.rest, h.ex, h.fr, fun v hv hdv => by
    show (if v = a then _ else _) = _
    rw [if_neg (fun e => by rw [e] at hdv; omega)]; exact h.fa v hv hdv, at_step h.ok hk hk2 hf, fun hz => ⟨(h.z hz).1, fun hd => dead_step ((h.z hz).2 hd) hk hf (ok.aFT hk2) (fun hr hdk => absurd ⟨by rw [(h.z hz).1 k hk2]; exact hr, by rw [← hf]; exact hdk⟩ hno)⟩⟩
/- behind the push at the next node -/
theorem Pushing.child (h : Pushing N C d t a limit R A sent R' A') {k : Nat} (hk : A' a = (k : Int)) (hk2 : k < 2 * N.m) (hf : N.aF k = a) (ha : a < N.n) (ok : N.Ok) (_hr : 0 < R' k) (hd : d (N.aT k) = d a + 1)
    {lim part : Int} {R1 A1 : Nat → Int} (hp : Pushed N C d t (N.aT k) lim R' A' part R1 A1) (_hl1 : lim ≤ limit - sent) (hl2 : lim ≤ R' k) :
    R1 k = R' k ∧ A1 a = (k : Int) ∧ N.Rest C (sent1 R1 k part) ∧
    (∀ v, N.ex (sent1 R1 k part) v = N.ex R v + (if v = a then sent + part else 0) - (if v = t then sent + part else 0)) ∧
    (∀ j, j < 2 * N.m → (d (N.aF j) < d a ∨ d (N.aT j) < d a) → sent1 R1 k part j = R j) ∧
    (∀ v, v < N.n → d v < d a → A1 v = A v) ∧
    (sent + part = 0 → N.aT k ≠ t ∧ A1 (N.aT k) = -1 ∧ (∀ j, j < 2 * N.m → sent1 R1 k part j = R j) ∧ (N.Dead R d t A → N.Dead R d t A1)) := by
  have e1 : R1 k = R' k := hp.fr k hk2 (Or.inl (by rw [hf, hd]; omega))
  have e2 : A1 a = (k : Int) := (hp.fa a ha (by rw [hd]; omega)).trans hk
  have hps0 := hp.s0
  have hps1 := hp.s1
  have hs0 := h.s0
  refine ⟨e1, e2, hp.rest.sent1 hk2 hps0 (by rw [e1]; omega), fun v => ?_, fun j hj hdj => ?_, fun v hv hdv => (hp.fa v hv (by rw [hd]; omega)).trans (h.fa v hv hdv), fun hz => ?_⟩
  · rw [Net.ex_sent1 ok R1 hk2 part v, hp.ex v, h.ex v, hf]
    by_cases c1 : v = a <;> by_cases c2 : v = N.aT k <;> by_cases c3 : v = t <;> simp only [c1, c2, c3, if_true, if_false] <;> (try simp only [if_pos, if_neg]) <;> (repeat' split) <;> omega
  · have hjk : j ≠ k := fun e => by rw [e, hf, hd] at hdj; omega
    have hjb : j ≠ bk k := fun e => by rw [e, N.aF_bk, N.aT_bk, hf, hd] at hdj; omega
    show (if j = k then _ else if j = bk k then _ else R1 j) = _
    rw [if_neg hjk, if_neg hjb, hp.fr j hj (by rw [hd]; omega)]
    exact h.fr j hj hdj
  · have hs : sent = 0 := by omega
    have hpz : part = 0 := by omega
    obtain ⟨z1, z2, z3, z4⟩ := hp.z hpz
    obtain ⟨y1, y2⟩ := h.z hs
    refine ⟨z1, z2, fun j hj => ?_, fun hD => ?_⟩
    · show (if j = k then R1 k - part else if j = bk k then R1 (bk k) + part else R1 j) = _
      rw [hpz]
      by_cases c1 : j = k
      · rw [if_pos c1, c1, Int.sub_zero, z3 k hk2]; exact y1 k hk2
      · rw [if_neg c1]
        by_cases c2 : j = bk k
        · rw [if_pos c2, c2, Int.add_zero, z3 _ (bk_lt hk2)]; exact y1 _ (bk_lt hk2)
        · rw [if_neg c2, z3 j hj]; exact y1 j hj
    · exact (z4 ((y2 hD).congr (fun j hj => (y1 j hj).symm))).congr (fun j hj => y1 j hj)
theorem Pushing.full (h : Pushing N C d t a limit R A sent R' A') {k : Nat} (hk : A' a = (k : Int)) (hk2 : k < 2 * N.m) (hf : N.aF k = a) (ha : a < N.n) (ok : N.Ok) (hr : 0 < R' k) (hd : d (N.aT k) = d a + 1)
    {lim part : Int} {R1 A1 : Nat → Int} (hp : Pushed N C d t (N.aT k) lim R' A' part R1 A1) (hl1 : lim ≤ limit - sent) (hl2 : lim ≤ R' k) (hfull : sent + part = limit) :
    Pushed N C d t a limit R A (sent + part) (sent1 R1 k part) A1 := by
  obtain ⟨_, _, h3, h4, h5, h6, _⟩ := h.child hk hk2 hf ha ok hr hd hp hl1 hl2
  have := h.s0
  have := h.s1
  have := hp.s0
  exact ⟨by omega, by omega, h3, h4, h5, h6, hp.ok, fun hz => by omega⟩
theorem Pushing.next (h : Pushing N C d t a limit R A sent R' A') {k : Nat} (hk : A' a = (k : Int)) (hk2 : k < 2 * N.m) (hf : N.aF k = a) (ha : a < N.n) (ok : N.Ok) (hr : 0 < R' k) (hd : d (N.aT k) = d a + 1)
    {lim part : Int} {R1 A1 : Nat → Int} (hp : Pushed N C d t (N.aT k) lim R' A' part R1 A1) (hl1 : lim ≤ limit - sent) (hl2 : lim ≤ R' k) (hfull : sent + part ≠ limit) :
    Pushing N C d t a limit R A (sent + part) (sent1 R1 k part) (fun v => if v = a then N.la (N.aF k) k else A1 v) := by
  obtain ⟨_, h2, h3, h4, h5, h6, h7⟩ := h.child hk hk2 hf ha ok hr hd hp hl1 hl2
  have := h.s0
  have := h.s1
  have := hp.s0
  have := hp.s1
  refine ⟨by omega, by omega, h3, h4, h5, fun v hv hdv => ?_, at_step hp.ok h2 hk2 hf, fun hz => ?_⟩
  · show (if v = a then _ else _) = _
    rw [if_neg (fun e => by rw [e] at hdv; omega)]; exact h6 v hv hdv
  · obtain ⟨z1, z2, z3, z4⟩ := h7 hz
    exact ⟨z3, fun hD => dead_step (z4 hD) h2 hf (ok.aFT hk2) (fun _ _ => ⟨z1, z2⟩)⟩
theorem pushed_end (hr : N.Rest C R) (ha : N.AtOk A) (hl : 0 < limit) : Pushed N C d t t limit R A limit R A :=
  ⟨Int.le_of_lt hl, Int.le_refl _, hr, fun v => by by_cases h : v = t <;> simp [h], fun _ _ _ => rfl, fun _ _ _ => rfl, ha, fun h => by omega⟩
end
end Go.Proofs.Ytjdceafkcakbjaa
