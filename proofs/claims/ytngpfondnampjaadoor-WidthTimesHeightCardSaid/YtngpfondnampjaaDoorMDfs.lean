/- Alternating paths: the search by recursion, as a function, and what it keeps (mathematics). -/
namespace Go.Proofs.YtngpfondnampjaaDoor
structure Gr where
  seen : Nat → Bool
  L : Nat → Int
  R : Nat → Int
def put (f : Nat → Int) (k : Nat) (x : Int) : Nat → Int := fun j => if j = k then x else f j
theorem put_same (f : Nat → Int) (k : Nat) (x : Int) : put f k x k = x := by unfold put; rw [if_pos rfl]
theorem put_ne (f : Nat → Int) {k j : Nat} (x : Int) (h : j ≠ k) : put f k x j = f j := by unfold put; rw [if_neg h]
def mark (s : Nat → Bool) (b : Nat) : Nat → Bool := fun j => if j = b then true else s j
theorem mark_same (s : Nat → Bool) (b : Nat) : mark s b b = true := by unfold mark; rw [if_pos rfl]
theorem mark_or (s : Nat → Bool) (b j : Nat) : mark s b j = true ↔ s j = true ∨ j = b := by
  unfold mark
  by_cases e : j = b
  · simp [e]
  · simp [e]
def Gr.see (g : Gr) (b : Nat) : Gr := ⟨mark g.seen b, g.L, g.R⟩
def Gr.mat (g : Gr) (a b : Nat) : Gr := ⟨g.seen, put g.L a (b : Int), put g.R b (a : Int)⟩
def walk (rec : Nat → Gr → Bool × Gr) (a : Nat) : List Nat → Gr → Bool × Gr
  | [], g => (false, g)
  | b :: l, g =>
    if g.seen b = true then walk rec a l g
    else if g.R b = -1 then (true, (g.see b).mat a b)
    else if (rec (g.R b).toNat (g.see b)).1 = true then (true, (rec (g.R b).toNat (g.see b)).2.mat a b)
    else walk rec a l (rec (g.R b).toNat (g.see b)).2
def vis (nb : Nat → List Nat) : Nat → Nat → Gr → Bool × Gr
  | 0, _, g => (false, g)
  | f + 1, a, g => walk (vis nb f) a (nb a) g
/- how many right nodes are not seen -/
def un (s : Nat → Bool) : Nat → Nat
  | 0 => 0
  | m + 1 => un s m + (if s m = true then 0 else 1)
theorem un_le (s : Nat → Bool) : ∀ m, un s m ≤ m
  | 0 => Nat.le_refl _
  | m + 1 => by have := un_le s m; show un s m + _ ≤ _; split <;> omega
theorem un_mono {s s' : Nat → Bool} (h : ∀ b, s b = true → s' b = true) : ∀ m, un s' m ≤ un s m
  | 0 => Nat.le_refl _
  | m + 1 => by
    have := un_mono h m
    show un s' m + _ ≤ un s m + _
    by_cases e : s m = true
    · rw [if_pos e, if_pos (h m e)]; omega
    · rw [if_neg e]; split <;> omega
theorem un_mark {s : Nat → Bool} {b : Nat} (hs : ¬ s b = true) : ∀ {m}, b < m → un (mark s b) m + 1 = un s m
  | 0, h => absurd h (Nat.not_lt_zero _)
  | m + 1, h => by
    show un (mark s b) m + _ + 1 = un s m + _
    by_cases e : b = m
    · subst e
      rw [if_pos (mark_same s b), if_neg hs]
      have : ∀ k, k ≤ b → un (mark s b) k = un s k := by
        intro k
        induction k with
        | zero => intro _; rfl
        | succ k ih =>
          intro hk
          show un (mark s b) k + _ = un s k + _
          rw [ih (by omega)]
          have : mark s b k = s k := by unfold mark; rw [if_neg (by omega)]
          rw [this]
      rw [this b (Nat.le_refl _)]
    · have ih := un_mark hs (m := m) (by omega)
      have : mark s b m = s m := by unfold mark; rw [if_neg (by omega)]
      rw [this]; omega
/- a matching, but for what the right node x says -/
structure Par (n m : Nat) (nb : Nat → List Nat) (x : Int) (g : Gr) : Prop where
  l : ∀ a, a < n → g.L a = -1 ∨ ∃ b : Nat, b < m ∧ g.L a = b ∧ b ∈ nb a ∧ g.R b = a
  w : ∀ b, b < m → g.R b = -1 ∨ ∃ a : Nat, a < n ∧ g.R b = a
  r : ∀ b : Nat, b < m → (b : Int) ≠ x → g.R b = -1 ∨ ∃ a : Nat, a < n ∧ g.R b = a ∧ g.L a = b
def Mat (n m : Nat) (nb : Nat → List Nat) (g : Gr) : Prop := Par n m nb (-1) g
theorem Mat.r {n m : Nat} {nb : Nat → List Nat} {g : Gr} (h : Mat n m nb g) (b : Nat) (hb : b < m) : g.R b = -1 ∨ ∃ a : Nat, a < n ∧ g.R b = a ∧ g.L a = b := Par.r h b hb (by omega)
def Closed (m : Nat) (nb : Nat → List Nat) (R : Nat → Int) (C : Nat → Prop) : Prop := ∀ b, C b → b < m ∧ R b ≠ -1 ∧ ∀ c, c ∈ nb (R b).toNat → C c
structure Kept (m : Nat) (g g' : Gr) (a : Nat) : Prop where
  mono : ∀ b, g.seen b = true → g'.seen b = true
  rng : ∀ b, g'.seen b = true → g.seen b = true ∨ b < m
  fr : ∀ b, g.seen b = true → g'.R b = g.R b
  fl : ∀ a', a' ≠ a → (g.L a' = -1 ∨ ∃ b : Nat, g.L a' = b ∧ g.seen b = true) → g'.L a' = g.L a'
structure Failed (m : Nat) (nb : Nat → List Nat) (g g' : Gr) (a : Nat) : Prop where
  eL : g'.L = g.L
  eR : g'.R = g.R
  all : ∀ b, b ∈ nb a → g'.seen b = true
  new : ∀ b, g'.seen b = true → g.seen b = true ∨ (b < m ∧ g.R b ≠ -1 ∧ ∀ c, c ∈ nb (g.R b).toNat → g'.seen c = true)
  least : ∀ C, Closed m nb g.R C → (∀ b, b ∈ nb a → C b) → ∀ b, g'.seen b = true → g.seen b = true ∨ C b
structure Done (n m : Nat) (nb : Nat → List Nat) (g g' : Gr) (a : Nat) : Prop where
  par : Par n m nb (g.L a) g'
  at_ : ∃ b : Nat, b < m ∧ g'.L a = b ∧ g.L a ≠ b
  ml : ∀ a', g'.L a' ≠ -1 ↔ (g.L a' ≠ -1 ∨ a' = a)
  mr : ∃ t, t < m ∧ g.R t = -1 ∧ ∀ b, g'.R b ≠ -1 ↔ (g.R b ≠ -1 ∨ b = t)
  cl : ∀ C, Closed m nb g.R C → (¬ ∀ b, b ∈ nb a → C b) ∧ ∀ b, C b → g'.R b = g.R b
structure VRes (n m : Nat) (nb : Nat → List Nat) (g : Gr) (a : Nat) (out : Bool × Gr) : Prop where
  kept : Kept m g out.2 a
  no : out.1 = false → Failed m nb g out.2 a
  yes : out.1 = true → Done n m nb g out.2 a
theorem Kept.refl (m : Nat) (g : Gr) (a : Nat) : Kept m g g a := ⟨fun _ h => h, fun _ h => .inl h, fun _ _ => rfl, fun _ _ _ => rfl⟩
theorem vis_res {n m : Nat} {nb : Nat → List Nat} (hnb : ∀ a b, b ∈ nb a → b < m) : ∀ (f a : Nat) (g : Gr), Mat n m nb g → a < n → (g.L a = -1 ∨ ∃ b : Nat, g.L a = b ∧ g.seen b = true) → un g.seen m < f → VRes n m nb g a (vis nb f a g)
  | 0, _, _, _, _, _, h => absurd h (Nat.not_lt_zero _)
  | f + 1, a, g, hm, ha, hs, hu => by
    have IH := vis_res (n := n) hnb f
    suffices key : ∀ (l : List Nat) (g : Gr), Mat n m nb g → (g.L a = -1 ∨ ∃ b : Nat, g.L a = b ∧ g.seen b = true) → un g.seen m < f + 1 → (∀ b, b ∈ l → b ∈ nb a) → (∀ b, b ∈ nb a → b ∈ l ∨ g.seen b = true) → VRes n m nb g a (walk (vis nb f) a l g) from
      key (nb a) g hm hs hu (fun _ h => h) (fun _ h => .inl h)
    intro l
    induction l with
    | nil =>
      intro g hm hs hu h1 h2
      exact ⟨Kept.refl m g a, fun _ => ⟨rfl, rfl, fun b hb => (h2 b hb).resolve_left (by simp), fun _ h => .inl h, fun _ _ _ _ h => .inl h⟩, (fun h => by cases h)⟩
    | cons b l ih =>
      intro g hm hs hu h1 h2
      have hbn : b ∈ nb a := h1 b (List.mem_cons_self ..)
      have hbm := hnb a b hbn
      show VRes n m nb g a (if g.seen b = true then _ else _)
      by_cases c1 : g.seen b = true
      · rw [if_pos c1]
        exact ih g hm hs hu (fun x hx => h1 x (List.mem_cons_of_mem _ hx)) (fun x hx => by
          rcases h2 x hx with h | h
          · rcases List.mem_cons.1 h with rfl | h
            · exact .inr c1
            · exact .inl h
          · exact .inr h)
      · rw [if_neg c1]
        have hLb : g.L a ≠ (b : Int) := fun e => by
          rcases hs with h | ⟨b', h, h'⟩
          · omega
          · rw [h] at e
            have : b' = b := by omega
            subst this; exact c1 h'
        by_cases c2 : g.R b = -1
        · rw [if_pos c2]
          refine ⟨⟨fun x hx => (mark_or _ _ _).2 (.inl hx), fun x hx => ?_, fun x hx => put_ne _ _ (fun (e : x = b) => c1 (e ▸ hx)), fun a' ha' _ => put_ne _ _ ha'⟩, (fun h => by cases h), fun _ => ⟨⟨fun a' ha' => ?_, fun b' hb' => ?_, fun b' hb' hx => ?_⟩, ⟨b, hbm, put_same _ _ _, hLb⟩, fun a' => ?_, ⟨b, hbm, c2, fun b' => ?_⟩, fun C hC => ⟨fun hall => ?_, fun b' hb' => ?_⟩⟩⟩
          · rcases (mark_or _ _ _).1 hx with h | h
            · exact .inl h
            · exact .inr (h ▸ hbm)
          · show put g.L a _ a' = -1 ∨ ∃ c : Nat, c < m ∧ put g.L a _ a' = c ∧ c ∈ nb a' ∧ put g.R b _ c = a'
            by_cases e : a' = a
            · subst e
              exact .inr ⟨b, hbm, put_same _ _ _, hbn, put_same _ _ _⟩
            · rw [put_ne _ _ e]
              rcases hm.l a' ha' with h | ⟨c, k1, k2, k3, k4⟩
              · exact .inl h
              · have hcb : c ≠ b := fun e => by rw [e, c2] at k4; omega
                exact .inr ⟨c, k1, k2, k3, by rw [put_ne _ _ hcb]; exact k4⟩
          · show put g.R b _ b' = -1 ∨ ∃ c : Nat, c < n ∧ put g.R b _ b' = c
            by_cases e : b' = b
            · subst e; exact .inr ⟨a, ha, put_same _ _ _⟩
            · rw [put_ne _ _ e]; exact hm.w b' hb'
          · show put g.R b _ b' = -1 ∨ ∃ c : Nat, c < n ∧ put g.R b _ b' = c ∧ put g.L a _ c = b'
            by_cases e : b' = b
            · subst e; exact .inr ⟨a, ha, put_same _ _ _, put_same _ _ _⟩
            · rw [put_ne _ _ e]
              rcases Mat.r hm b' hb' with h | ⟨c, k1, k2, k3⟩
              · exact .inl h
              · have hca : c ≠ a := fun e => by subst e; exact hx k3.symm
                exact .inr ⟨c, k1, k2, by rw [put_ne _ _ hca]; exact k3⟩
          · show put g.L a _ a' ≠ -1 ↔ _
            by_cases e : a' = a
            · subst e; rw [put_same]; exact ⟨fun _ => .inr rfl, fun _ => by omega⟩
            · rw [put_ne _ _ e]; exact ⟨fun h => .inl h, fun h => h.resolve_right e⟩
          · show put g.R b _ b' ≠ -1 ↔ _
            by_cases e : b' = b
            · subst e; rw [put_same]; exact ⟨fun _ => .inr rfl, fun _ => by omega⟩
            · rw [put_ne _ _ e]; exact ⟨fun h => .inl h, fun h => h.resolve_right e⟩
          · exact (hC b (hall b hbn)).2.1 c2
          · exact put_ne _ _ (fun e => (hC b' hb').2.1 (e ▸ c2))
        · rw [if_neg c2]
          obtain ⟨d, hd, hRd, hLd⟩ : ∃ d : Nat, d < n ∧ g.R b = d ∧ g.L d = b := (Mat.r hm b hbm).resolve_left c2
          have hdn : (g.R b).toNat = d := by rw [hRd]; rfl
          rw [hdn]
          have hda : d ≠ a := fun e => by subst e; exact hLb hLd
          have hms : Mat n m nb (g.see b) := ⟨hm.l, hm.w, fun b' hb' hx => Par.r hm b' hb' hx⟩
          have hus := un_mark c1 hbm
          have hres := IH d (g.see b) hms hd (.inr ⟨b, hLd, mark_same _ _⟩) (by show un (mark g.seen b) m < f; omega)
          generalize vis nb f d (g.see b) = out at *
          obtain ⟨r, g1⟩ := out
          obtain ⟨kp, hno, hyes⟩ := hres
          have hsb : g1.seen b = true := kp.mono b (mark_same _ _)
          have hmono : ∀ x, g.seen x = true → g1.seen x = true := fun x hx => kp.mono x ((mark_or _ _ _).2 (.inl hx))
          cases r with
          | true =>
            rw [if_pos rfl]
            have dn := hyes rfl
            have hR1b : g1.R b = d := (kp.fr b (mark_same _ _)).trans hRd
            obtain ⟨y, hy1, hy2, hy3⟩ := dn.at_
            replace hy3 : (b : Int) ≠ y := hLd ▸ hy3
            replace hy2 : g1.L d = y := hy2
            have hL1a : g1.L a = g.L a := kp.fl a (Ne.symm hda) (hs.imp id (fun ⟨b', e1, e2⟩ => ⟨b', e1, (mark_or _ _ _).2 (.inl e2)⟩))
            have hpar := dn.par
            replace hpar : Par n m nb (b : Int) g1 := by
              have e : (g.see b).L d = (b : Int) := hLd
              rw [e] at hpar; exact hpar
            obtain ⟨t, ht1, ht2, ht3⟩ := dn.mr
            refine ⟨⟨hmono, fun x hx => ?_, fun x hx => ?_, fun a' ha' hx => ?_⟩, (fun h => by cases h), fun _ => ⟨⟨fun a' ha' => ?_, fun b' hb' => ?_, fun b' hb' hx => ?_⟩, ⟨b, hbm, put_same _ _ _, hLb⟩, fun a' => ?_, ⟨t, ht1, ht2, fun b' => ?_⟩, fun C hC => ?_⟩⟩
            · rcases kp.rng x hx with h | h
              · rcases (mark_or _ _ _).1 h with h | h
                · exact .inl h
                · exact .inr (h ▸ hbm)
              · exact .inr h
            · show put g1.R b _ x = _
              rw [put_ne _ _ (fun (e : x = b) => c1 (e ▸ hx))]
              exact kp.fr x ((mark_or _ _ _).2 (.inl hx))
            · show put g1.L a _ a' = _
              rw [put_ne _ _ ha']
              refine kp.fl a' (fun e => ?_) (hx.imp id (fun ⟨b', e1, e2⟩ => ⟨b', e1, (mark_or _ _ _).2 (.inl e2)⟩))
              subst e
              rcases hx with h | ⟨b', e1, e2⟩
              · omega
              · have : b' = b := by omega
                subst this; exact c1 e2
            · show put g1.L a _ a' = -1 ∨ ∃ c : Nat, c < m ∧ put g1.L a _ a' = c ∧ c ∈ nb a' ∧ put g1.R b _ c = a'
              by_cases e : a' = a
              · subst e
                exact .inr ⟨b, hbm, put_same _ _ _, hbn, put_same _ _ _⟩
              · rw [put_ne _ _ e]
                rcases hpar.l a' ha' with h | ⟨c, k1, k2, k3, k4⟩
                · exact .inl h
                · have hcb : c ≠ b := fun e => by
                    subst e
                    have : a' = d := by omega
                    subst this; omega
                  exact .inr ⟨c, k1, k2, k3, by rw [put_ne _ _ hcb]; exact k4⟩
            · show put g1.R b _ b' = -1 ∨ ∃ c : Nat, c < n ∧ put g1.R b _ b' = c
              by_cases e : b' = b
              · subst e; exact .inr ⟨a, ha, put_same _ _ _⟩
              · rw [put_ne _ _ e]; exact hpar.w b' hb'
            · show put g1.R b _ b' = -1 ∨ ∃ c : Nat, c < n ∧ put g1.R b _ b' = c ∧ put g1.L a _ c = b'
              by_cases e : b' = b
              · subst e; exact .inr ⟨a, ha, put_same _ _ _, put_same _ _ _⟩
              · rw [put_ne _ _ e]
                rcases hpar.r b' hb' (by omega) with h | ⟨c, k1, k2, k3⟩
                · exact .inl h
                · have hca : c ≠ a := fun e => by subst e; rw [hL1a] at k3; exact hx k3.symm
                  exact .inr ⟨c, k1, k2, by rw [put_ne _ _ hca]; exact k3⟩
            · show put g1.L a _ a' ≠ -1 ↔ _
              by_cases e : a' = a
              · subst e; rw [put_same]; exact ⟨fun _ => .inr rfl, fun _ => by omega⟩
              · rw [put_ne _ _ e, dn.ml a']
                constructor
                · rintro (h | h)
                  · exact .inl h
                  · subst h; exact .inl (by omega)
                · exact fun h => .inl (h.resolve_right e)
            · show put g1.R b _ b' ≠ -1 ↔ _
              by_cases e : b' = b
              · subst e; rw [put_same]; exact ⟨fun _ => .inl c2, fun _ => by omega⟩
              · rw [put_ne _ _ e, ht3 b']; exact Iff.rfl
            · obtain ⟨k1, k2⟩ := dn.cl C hC
              have hnc : ¬ C b := fun h => k1 (by have := (hC b h).2.2; rw [hdn] at this; exact this)
              refine ⟨fun h => hnc (h b hbn), fun b' hb' => ?_⟩
              show put g1.R b _ b' = _
              rw [put_ne _ _ (fun (e : b' = b) => hnc (e ▸ hb'))]
              exact k2 b' hb'
          | false =>
            rw [if_neg (fun h => by cases h)]
            have fl := hno rfl
            have eL : g1.L = g.L := fl.eL
            have eR : g1.R = g.R := fl.eR
            have hm1 : Mat n m nb g1 := ⟨by rw [eL, eR]; exact hm.l, by rw [eR]; exact hm.w, by rw [eL, eR]; exact Par.r hm⟩
            have h3 := ih g1 hm1 (by rw [eL]; exact hs.imp id (fun ⟨b', e1, e2⟩ => ⟨b', e1, hmono b' e2⟩)) (by have := un_mono hmono m; omega) (fun x hx => h1 x (List.mem_cons_of_mem _ hx)) (fun x hx => by
              rcases h2 x hx with h | h
              · rcases List.mem_cons.1 h with rfl | h
                · exact .inr hsb
                · exact .inl h
              · exact .inr (hmono x h))
            generalize walk (vis nb f) a l g1 = out at *
            obtain ⟨r, g2⟩ := out
            obtain ⟨kp2, hno2, hyes2⟩ := h3
            have rng1 : ∀ x, g1.seen x = true → g.seen x = true ∨ x < m := fun x hx => by
              rcases kp.rng x hx with h | h
              · rcases (mark_or _ _ _).1 h with h | h
                · exact .inl h
                · exact .inr (h ▸ hbm)
              · exact .inr h
            refine ⟨⟨fun x hx => kp2.mono x (hmono x hx), fun x hx => (kp2.rng x hx).elim (rng1 x) .inr, fun x hx => by rw [kp2.fr x (hmono x hx), eR], fun a' ha' hx => ?_⟩, fun hr => ?_, fun hr => ?_⟩
            · rw [kp2.fl a' ha' (by rw [eL]; exact hx.imp id (fun ⟨b', e1, e2⟩ => ⟨b', e1, hmono b' e2⟩)), eL]
            · have f2 := hno2 hr
              refine ⟨f2.eL.trans eL, f2.eR.trans eR, f2.all, fun x hx => ?_, fun C hC hN x hx => ?_⟩
              · rcases f2.new x hx with h | h
                · rcases fl.new x h with h | ⟨q1, q2, q3⟩
                  · rcases (mark_or _ _ _).1 h with h | h
                    · exact .inl h
                    · subst h
                      exact .inr ⟨hbm, c2, fun c hc => kp2.mono c (fl.all c (by rw [hdn] at hc; exact hc))⟩
                  · exact .inr ⟨q1, q2, fun c hc => kp2.mono c (q3 c hc)⟩
                · rw [eR] at h; exact .inr h
              · have hCb := hN b hbn
                rcases f2.least C (by rw [eR]; exact hC) hN x hx with h | h
                · rcases fl.least C hC (by have := (hC b hCb).2.2; rw [hdn] at this; exact this) x h with h | h
                  · rcases (mark_or _ _ _).1 h with h | h
                    · exact .inl h
                    · subst h; exact .inr hCb
                  · exact .inr h
                · exact .inr h
            · have d2 := hyes2 hr
              obtain ⟨q1, q2, q3, q4, q5⟩ := d2
              rw [eL] at q1 q2 q3
              rw [eR] at q4 q5
              exact ⟨q1, q2, q3, q4, q5⟩
end Go.Proofs.YtngpfondnampjaaDoor
