/- The set of Hall (mathematics). -/
import Derived.Test.YtmafnncpdccfdaaMHaM
namespace Go.Proofs.Ytmafnncpdccfdaa
section
variable {n m : Nat} {nb : Nat → List Nat} {g : Gr}
theorem left_of {L : Nat → Int} {s : Nat → Bool} {a : Nat} : lfR L s a = true ↔ L a = -1 ∨ s (L a).toNat = true := by unfold lfR; simp
theorem left_part (h : Mat n m nb g) (s : Nat → Bool) {b a : Nat} (hb : b < m) (ha : a < n) (hR : g.R b = (a : Int)) : lfR g.L s a = s b := by
  rcases Mat.r h b hb with h1 | ⟨a', _, h1, h2⟩
  · rw [hR] at h1; omega
  · have e : a' = a := by omega
    subst e
    unfold lfR
    rw [h2, decide_eq_false (by omega)]; rfl
theorem near_left (h : Mat n m nb g) (hI : RsI n m nb g n) (b : Nat) : (rS nb m g n).seen b = true ↔ ∃ a, a < n ∧ lfR g.L (rS nb m g n).seen a = true ∧ b ∈ nb a := by
  have fwd : ∀ b, (∃ a, a < n ∧ lfR g.L (rS nb m g n).seen a = true ∧ b ∈ nb a) → (rS nb m g n).seen b = true := by
    rintro b ⟨a, ha, hl, hb⟩
    rcases left_of.1 hl with hL | hs
    · exact hI.all a ha hL b hb
    · rcases h.l a ha with hL | ⟨b', hb', hL, _, hR⟩
      · exact hI.all a ha hL b hb
      · rw [hL, show ((b' : Int)).toNat = b' from rfl] at hs
        have := (hI.cl b' hs).2.2
        rw [hR, show ((a : Int)).toNat = a from rfl] at this
        exact this b hb
  refine ⟨fun hs => ?_, fwd b⟩
  refine hI.least (fun b => ∃ a, a < n ∧ lfR g.L (rS nb m g n).seen a = true ∧ b ∈ nb a) (fun b hb => ?_) (fun a ha hL b hb => ⟨a, ha, left_of.2 (.inl hL), hb⟩) b hs
  have hsb := fwd b hb
  obtain ⟨h1, h2, h3⟩ := hI.cl b hsb
  refine ⟨h1, h2, fun c hc => ?_⟩
  obtain ⟨a, ha, hR, hL⟩ := (Mat.r h b h1).resolve_left h2
  rw [hR, show ((a : Int)).toNat = a from rfl] at hc
  exact ⟨a, ha, by rw [left_part h _ h1 ha hR]; exact hsb, hc⟩
theorem cnt_left (h : Mat n m nb g) (hI : RsI n m nb g n) : cntT (lfR g.L (rS nb m g n).seen) n = cntT (freeB g) n + cntT (rS nb m g n).seen m := by
  have hs := cntT_split (lfR g.L (rS nb m g n).seen) (freeB g) n
  have e : cntT (fun a => lfR g.L (rS nb m g n).seen a && !freeB g a) n = _ := mat_cnt h _
  rw [e] at hs
  have c1 : cntT (fun a => lfR g.L (rS nb m g n).seen a && freeB g a) n = cntT (freeB g) n := by
    refine Nat.le_antisymm (cntT_mono fun a _ hx => by simp at hx; exact hx.2) (cntT_mono fun a _ hx => ?_)
    have hL : g.L a = -1 := by unfold freeB at hx; simpa using hx
    show (_ && _) = true
    rw [hx, left_of.2 (.inl hL)]; rfl
  have c2 : cntT (fun b => !decide (g.R b = -1) && lfR g.L (rS nb m g n).seen (g.R b).toNat) m = cntT (rS nb m g n).seen m := by
    refine Nat.le_antisymm (cntT_mono fun b hb hx => ?_) (cntT_mono fun b hb hx => ?_)
    · rcases Mat.r h b hb with hR | ⟨a, ha, hR, hL⟩
      · rw [hR] at hx; simp at hx
      · rw [hR, show ((a : Int)).toNat = a from rfl, left_part h _ hb ha hR] at hx
        simp at hx; first | exact hx.2 | exact hx
    · obtain ⟨h1, h2, _⟩ := hI.cl b hx
      obtain ⟨a, ha, hR, hL⟩ := (Mat.r h b hb).resolve_left h2
      show (_ && _) = true
      rw [hR, show ((a : Int)).toNat = a from rfl, left_part h _ hb ha hR, hx, decide_eq_false (by omega)]; rfl
  omega
theorem left_least (h : Mat n m nb g) (hnb : ∀ a b, b ∈ nb a → b < m) (hI : RsI n m nb g n) {T N : Nat → Bool} (hN : ∀ b, N b = true ↔ ∃ a, a < n ∧ T a = true ∧ b ∈ nb a) (hd : cntT (freeB g) n + cntT N m ≤ cntT T n) :
    ∀ a, a < n → lfR g.L (rS nb m g n).seen a = true → T a = true := by
  obtain ⟨hf, hp⟩ := hall_eq h hN hd
  have hs : ∀ b, (rS nb m g n).seen b = true → N b = true := by
    refine hI.least (fun b => N b = true) (fun b hb => ?_) (fun a ha hL b hb => (hN b).2 ⟨a, ha, hf a ha hL, hb⟩)
    obtain ⟨a0, _, _, hb0⟩ := (hN b).1 hb
    have hbm := hnb a0 b hb0
    obtain ⟨a, ha, hR, hT⟩ := hp b hbm hb
    refine ⟨hbm, by omega, fun c hc => ?_⟩
    rw [hR, show ((a : Int)).toNat = a from rfl] at hc
    exact (hN c).2 ⟨a, ha, hT, hc⟩
  intro a ha hl
  rcases left_of.1 hl with hL | hs2
  · exact hf a ha hL
  · rcases h.l a ha with hL | ⟨b, hb, hL, _, hR⟩
    · exact hf a ha hL
    · rw [hL, show ((b : Int)).toNat = b from rfl] at hs2
      obtain ⟨a', _, hR', hT⟩ := hp b hb (hs b hs2)
      have : a' = a := by omega
      subst this; exact hT
end
theorem prl_cnt (L : Nat → Int) : ∀ n, (prl L n).length + cntT (fun a => decide (L a = -1)) n = n
  | 0 => rfl
  | n + 1 => by
    have ih := prl_cnt L n
    show (prl L n ++ _).length + (cntT _ n + _) = n + 1
    rw [List.length_append]
    by_cases h : L n = -1
    · rw [if_pos h, if_pos (decide_eq_true h)]; simp; omega
    · rw [if_neg h, if_neg (by simp [h])]; simp; omega
end Go.Proofs.Ytmafnncpdccfdaa
