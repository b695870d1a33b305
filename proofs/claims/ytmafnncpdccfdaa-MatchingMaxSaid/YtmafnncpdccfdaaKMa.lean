/- The theorem of Koenig (mathematics): matchings and covers of one size. -/
import Derived.Test.YtmafnncpdccfdaaMCkA
import Derived.Test.YtmafnncpdccfdaaMHaQ
namespace Go.Proofs.Ytmafnncpdccfdaa
theorem bcnt_cntT (f : Nat → Nat) : ∀ n, bcnt f n = cntT (bt f) n
  | 0 => rfl
  | n + 1 => by show bcnt f n + _ = cntT _ n + _; rw [bcnt_cntT f n]
theorem nbs_iff {n m k : Nat} {E : Nat → Int × Int} (hv : VG n m k E) (a b : Nat) : ∀ K, K ≤ k → (b ∈ nbs E K a ↔ ∃ i, i < K ∧ E i = ((a : Int), (b : Int)))
  | 0, _ => ⟨(fun h => by cases h), (fun ⟨_, h, _⟩ => absurd h (Nat.not_lt_zero _))⟩
  | K + 1, hK => by
    have ih := nbs_iff hv a b K (by omega)
    obtain ⟨⟨h1, h2⟩, h3, h4⟩ := hv.ran K hK
    have hE : E K = ((((E K).1.toNat : Nat) : Int), (((E K).2.toNat : Nat) : Int)) := Prod.ext (by show (E K).1 = _; omega) (by show (E K).2 = _; omega)
    rw [nbs_step hE]
    constructor
    · intro h
      unfold setL at h
      split at h
      · rename_i he
        rcases List.mem_append.1 h with h | h
        · rw [← he] at h
          obtain ⟨i, hi, e⟩ := ih.1 h
          exact ⟨i, by omega, e⟩
        · have hb : b = (E K).2.toNat := by simpa using h
          exact ⟨K, Nat.lt_succ_self K, by rw [he, hb]; exact hE⟩
      · obtain ⟨i, hi, e⟩ := ih.1 h
        exact ⟨i, by omega, e⟩
    · rintro ⟨i, hi, e⟩
      by_cases hiK : i = K
      · subst hiK
        have e1 : (E i).1.toNat = a := by rw [e]; rfl
        have e2 : (E i).2.toNat = b := by rw [e]; rfl
        rw [e1, e2, setL_same]; simp
      · have := ih.2 ⟨i, by omega, e⟩
        unfold setL
        split
        · rename_i he; rw [← he]; exact List.mem_append_left _ this
        · exact this
/- as many as an injection has -/
theorem inj_cnt {φ : Nat → Nat} {P : Nat → Bool} {n : Nat} : ∀ {p : Nat} {T : Nat → Bool}, (∀ i j, i < j → j < p → P i = true → P j = true → φ i ≠ φ j) → (∀ i, i < p → P i = true → φ i < n ∧ T (φ i) = true) → cntT P p ≤ cntT T n
  | 0, _, _, _ => Nat.zero_le _
  | p + 1, T, hi, ht => by
    show cntT P p + _ ≤ _
    by_cases c : P p = true
    · rw [if_pos c]
      obtain ⟨h1, h2⟩ := ht p (Nat.lt_succ_self p) c
      have hs : (fun b => if b = φ p then false else T b) (φ p) = false := if_pos rfl
      have hm := cntT_mark (s := fun b => if b = φ p then false else T b) hs h1
      have e : mark (fun b => if b = φ p then false else T b) (φ p) = T := funext fun b => by
        unfold mark
        by_cases hb : b = φ p
        · rw [if_pos hb, hb, h2]
        · rw [if_neg hb]; exact if_neg hb
      rw [e] at hm
      have ih := inj_cnt (p := p) (T := fun b => if b = φ p then false else T b) (fun i j hij hj => hi i j hij (by omega)) (fun i hip hP => by
        obtain ⟨h3, h4⟩ := ht i (by omega) hP
        refine ⟨h3, ?_⟩
        show (if φ i = φ p then false else T (φ i)) = true
        rw [if_neg (hi i p hip (Nat.lt_succ_self p) hP c)]; exact h4)
      omega
    · rw [if_neg c]
      exact inj_cnt (p := p) (fun i j hij hj => hi i j hij (by omega)) (fun i hip => ht i (by omega))
theorem cntT_or (P Q : Nat → Bool) : ∀ n, (∀ i, i < n → P i = true ∨ Q i = true) → n ≤ cntT P n + cntT (fun i => !P i && Q i) n
  | 0, _ => Nat.zero_le _
  | n + 1, h => by
    have ih := cntT_or P Q n (fun i hi => h i (by omega))
    show n + 1 ≤ cntT P n + (if P n = true then 1 else 0) + (cntT (fun i => !P i && Q i) n + (if (!P n && Q n) = true then 1 else 0))
    by_cases hP : P n = true
    · rw [if_pos hP]; omega
    · have hQ : Q n = true := (h n (Nat.lt_succ_self n)).resolve_left hP
      rw [if_pos (show (!P n && Q n) = true by rw [hQ, Bool.eq_false_iff.2 hP]; rfl)]; omega
/- the pairs of the maximum are a matching -/
theorem prl_get (L : Nat → Int) : ∀ K i, i < (prl L K).length → ∃ a, a < K ∧ L a ≠ -1 ∧ pE (prl L K) i = ((a : Int), L a)
  | 0, _, h => absurd h (Nat.not_lt_zero _)
  | K + 1, i, h => by
    have ih := prl_get L K i
    by_cases hK : L K = -1
    · have e : prl L (K + 1) = prl L K := by show prl L K ++ _ = _; rw [if_pos hK, List.append_nil]
      rw [e] at h ⊢
      obtain ⟨a, h1, h2⟩ := ih h
      exact ⟨a, by omega, h2⟩
    · have e : prl L (K + 1) = prl L K ++ [((K : Int), L K)] := by show prl L K ++ _ = _; rw [if_neg hK]
      rw [e] at h ⊢
      rw [List.length_append, List.length_singleton] at h
      by_cases hi : i < (prl L K).length
      · obtain ⟨a, h1, h2, h3⟩ := ih hi
        refine ⟨a, by omega, h2, ?_⟩
        rw [← h3, pE_get hi, pE_get (by rw [List.length_append, List.length_singleton]; omega), List.getElem_append_left hi]
      · have hi2 : i = (prl L K).length := by omega
        subst hi2
        refine ⟨K, Nat.lt_succ_self K, hK, ?_⟩
        rw [pE_get (by rw [List.length_append, List.length_singleton]; omega)]
        simp
theorem prl_rise (L : Nat → Int) : ∀ K i j, i < j → j < (prl L K).length → (pE (prl L K) i).1 < (pE (prl L K) j).1
  | 0, _, _, _, h => absurd h (Nat.not_lt_zero _)
  | K + 1, i, j, hij, h => by
    have ih := prl_rise L K i j hij
    by_cases hK : L K = -1
    · have e : prl L (K + 1) = prl L K := by show prl L K ++ _ = _; rw [if_pos hK, List.append_nil]
      rw [e] at h ⊢
      exact ih h
    · have e : prl L (K + 1) = prl L K ++ [((K : Int), L K)] := by show prl L K ++ _ = _; rw [if_neg hK]
      have hlen : (prl L K ++ [((K : Int), L K)]).length = (prl L K).length + 1 := by rw [List.length_append, List.length_singleton]
      rw [e] at h ⊢
      by_cases hj : j < (prl L K).length
      · have g1 : ∀ x, x < (prl L K).length → pE (prl L K ++ [((K : Int), L K)]) x = pE (prl L K) x := fun x hx => by rw [pE_get hx, pE_get (by omega), List.getElem_append_left hx]
        rw [g1 i (by omega), g1 j hj]
        exact ih hj
      · have hj2 : j = (prl L K).length := by omega
        subst hj2
        have g1 : pE (prl L K ++ [((K : Int), L K)]) i = pE (prl L K) i := by rw [pE_get hij, pE_get (by omega), List.getElem_append_left hij]
        have g2 : pE (prl L K ++ [((K : Int), L K)]) (prl L K).length = ((K : Int), L K) := by rw [pE_get h]; simp
        have hi : i < (prl L K).length := hij
        rw [g1, g2]
        obtain ⟨a, h1, _, h3⟩ := prl_get L K i hi
        rw [h3]
        show (a : Int) < (K : Int)
        omega
theorem bcnt_tl (T : Nat → Bool) (t : Bool) (n : Nat) : bcnt (setF (tl T t n)) n = cntT (fun i => T i == t) n := by
  rw [bcnt_cntT]
  refine cntT_congr fun i hi => ?_
  refine Bool.eq_iff_iff.2 ?_
  rw [setF_bt, tl_mem, beq_iff_eq]
  exact ⟨fun h => h.2, fun h => ⟨hi, h⟩⟩
theorem cntT_not (T : Nat → Bool) : ∀ n, cntT (fun i => T i == false) n + cntT T n = n
  | 0 => rfl
  | n + 1 => by
    have ih := cntT_not T n
    show cntT (fun i => T i == false) n + (if (T n == false) = true then 1 else 0) + (cntT T n + (if T n = true then 1 else 0)) = n + 1
    by_cases h : T n = true
    · rw [if_pos h, if_neg (by rw [h]; exact Bool.false_ne_true)]; omega
    · rw [if_neg h, if_pos (by rw [Bool.eq_false_iff.2 h]; rfl)]; omega
section
variable {n m k : Nat} {E : Nat → Int × Int} (hv : VG n m k E)
include hv
/- no matching is greater than a cover -/
theorem weak_dual {Z : Nat → Int × Int} {p : Nat} {f g : Nat → Nat} (hM : MatP E k Z p) (hC : Cov E f g k) : p ≤ bcnt f n + bcnt g m := by
  rw [bcnt_cntT, bcnt_cntT]
  have hin : ∀ i, i < p → InE n m (Z i) := fun i hi => hM.in_ hv hi
  have h0 := cntT_or (fun i => bt f (Z i).1.toNat) (fun i => bt g (Z i).2.toNat) p (fun i hi => by
    obtain ⟨e, he, hz⟩ := hM.1 i hi
    have := hC e he
    rw [hz] at this
    exact this)
  have h1 := inj_cnt (φ := fun i => (Z i).1.toNat) (P := fun i => bt f (Z i).1.toNat) (n := n) (p := p) (T := bt f) (fun i j hij hj _ _ e => by
    have a1 := hin i (by omega)
    have a2 := hin j hj
    exact (hM.2 i j hij hj).1 (by have := a1.1.1; have := a2.1.1; have e : (Z i).1.toNat = (Z j).1.toNat := e; omega)) (fun i hi hP => ⟨by have := (hin i hi).1; omega, hP⟩)
  have h2 := inj_cnt (φ := fun i => (Z i).2.toNat) (P := fun i => !bt f (Z i).1.toNat && bt g (Z i).2.toNat) (n := m) (p := p) (T := bt g) (fun i j hij hj _ _ e => by
    have a1 := hin i (by omega)
    have a2 := hin j hj
    exact (hM.2 i j hij hj).2 (by have := a1.2.1; have := a2.2.1; have e : (Z i).2.toNat = (Z j).2.toNat := e; omega)) (fun i hi hP => ⟨by have := (hin i hi).2; omega, by simp at hP; exact hP.2⟩)
  omega
/- what was found is a matching and a cover of one size -/
variable {g : Gr} (hM : Mat n m (nbs E k) g)
include hM
theorem max_mat : MatP E k (pE (prl g.L n)) (prl g.L n).length := by
  have at_ : ∀ i, i < (prl g.L n).length → ∃ a b : Nat, a < n ∧ b < m ∧ pE (prl g.L n) i = ((a : Int), (b : Int)) ∧ g.R b = (a : Int) ∧ b ∈ nbs E k a := fun i hi => by
    obtain ⟨a, ha, hL, e⟩ := prl_get _ n i hi
    obtain ⟨b, hb, h1, h2, h3⟩ := (hM.l a ha).resolve_left hL
    exact ⟨a, b, ha, hb, by rw [e, h1], h3, h2⟩
  refine ⟨fun i hi => ?_, fun i j hij hj => ⟨?_, ?_⟩⟩
  · obtain ⟨a, b, _, _, e, _, hb⟩ := at_ i hi
    obtain ⟨x, hx, e2⟩ := (nbs_iff hv a b k (Nat.le_refl _)).1 hb
    exact ⟨x, hx, by rw [e, e2]⟩
  · have := prl_rise g.L n i j hij hj
    omega
  · intro he
    obtain ⟨a, b, _, _, e, hR, _⟩ := at_ i (by omega)
    obtain ⟨a', b', _, _, e', hR', _⟩ := at_ j hj
    have hr := prl_rise g.L n i j hij hj
    rw [e, e'] at he hr
    have hb : b = b' := by have : (b : Int) = (b' : Int) := he; omega
    subst hb
    have : (a : Int) < (a' : Int) := hr
    omega
variable (hI : RsI n m (nbs E k) g n)
include hI
theorem cov_of : Cov E (setF (tl (lfR g.L (rS (nbs E k) m g n).seen) false n)) (setF (tl ((rS (nbs E k) m g n).seen) true m)) k := fun i hi => by
  obtain ⟨⟨h1, h2⟩, h3, h4⟩ := hv.ran i hi
  have hE : E i = ((((E i).1.toNat : Nat) : Int), (((E i).2.toNat : Nat) : Int)) := Prod.ext (by show (E i).1 = _; omega) (by show (E i).2 = _; omega)
  rw [setF_bt, setF_bt, tl_mem, tl_mem]
  cases hl : lfR g.L (rS (nbs E k) m g n).seen (E i).1.toNat with
  | false => exact .inl ⟨by omega, rfl⟩
  | true => exact .inr ⟨by omega, (near_left hM hI _).2 ⟨(E i).1.toNat, by omega, hl, (nbs_iff hv _ _ k (Nat.le_refl _)).2 ⟨i, hi, hE⟩⟩⟩
omit hv in
theorem cov_size : (prl g.L n).length = bcnt (setF (tl (lfR g.L (rS (nbs E k) m g n).seen) false n)) n + bcnt (setF (tl ((rS (nbs E k) m g n).seen) true m)) m := by
  rw [bcnt_tl, bcnt_tl]
  have h1 := prl_cnt g.L n
  have h2 : cntT (lfR g.L (rS (nbs E k) m g n).seen) n = cntT (freeB g) n + cntT ((rS (nbs E k) m g n).seen) m := cnt_left hM hI
  have h3 := cntT_not (lfR g.L (rS (nbs E k) m g n).seen) n
  have h4 : cntT (fun i => (rS (nbs E k) m g n).seen i == true) m = cntT ((rS (nbs E k) m g n).seen) m := cntT_congr fun i _ => by cases (rS (nbs E k) m g n).seen i <;> rfl
  have h5 : cntT (fun a => decide (g.L a = -1)) n = cntT (freeB g) n := rfl
  omega
theorem max_ck : CkP n m k (prl g.L n).length E (pE (prl g.L n)) n m ((n + 63) / 64) ((m + 63) / 64) (setF (tl (lfR g.L (rS (nbs E k) m g n).seen) false n)) (setF (tl ((rS (nbs E k) m g n).seen) true m)) := by
  have hn := hv.n1
  have hm := hv.m1
  refine ⟨hv, ⟨rfl, setF_vld (by omega) fun x hx => (tl_mem.1 hx).1⟩, ⟨rfl, setF_vld (by omega) fun x hx => (tl_mem.1 hx).1⟩, max_mat hv hM, cov_of hv hM hI, cov_size hM hI⟩
theorem mat_max {Z : Nat → Int × Int} {p : Nat} (hZ : MatP E k Z p) : p ≤ (prl g.L n).length := by
  rw [cov_size hM hI]; exact weak_dual hv hZ (cov_of hv hM hI)
/- a cover of the same size holds what was reached -/
theorem cov_least {f h : Nat → Nat} (hC : Cov E f h k) (he : bcnt f n + bcnt h m = (prl g.L n).length) : ∀ b, (rS (nbs E k) m g n).seen b = true → bt h b = true := by
  have hcov : ∀ a b, a < n → b ∈ nbs E k a → bt f a = true ∨ bt h b = true := fun a b _ hb => by
    obtain ⟨i, hi, e⟩ := (nbs_iff hv a b k (Nat.le_refl _)).1 hb
    have := hC i hi
    rw [e] at this; exact this
  have s1 := cntT_split (bt f) (freeB g) n
  have e1 : cntT (fun a => bt f a && !freeB g a) n = cntT (fun b => !decide (g.R b = -1) && bt f (g.R b).toNat) m := mat_cnt hM (bt f)
  have e2 : cntT (fun a => true && !freeB g a) n = cntT (fun b => !decide (g.R b = -1) && true) m := mat_cnt hM (fun _ => true)
  have s2 := cntT_split (fun _ => true) (freeB g) n
  have c1 : cntT (fun _ => true) n = n := by have := cntT_not (fun _ => true) n; have h0 : cntT (fun _ => (true == false)) n = 0 := cntT_none n; omega
  have p1 := prl_cnt g.L n
  have p2 : cntT (fun a => decide (g.L a = -1)) n = cntT (fun a => true && freeB g a) n := cntT_congr fun a _ => by simp [freeB]
  /- the matched right nodes: partner in f, or itself in g -/
  have s3 := cntT_split (fun b => !decide (g.R b = -1) && true) (fun b => bt f (g.R b).toNat) m
  have s4 := cntT_split (bt h) (fun b => !decide (g.R b = -1)) m
  have s5 := cntT_split (fun b => bt h b && !decide (g.R b = -1)) (fun b => bt f (g.R b).toNat) m
  have q1 : cntT (fun b => (!decide (g.R b = -1) && true) && bt f (g.R b).toNat) m = cntT (fun b => !decide (g.R b = -1) && bt f (g.R b).toNat) m := cntT_congr fun b _ => by simp
  have q2 : cntT (fun b => (!decide (g.R b = -1) && true) && !bt f (g.R b).toNat) m ≤ cntT (fun b => (bt h b && !decide (g.R b = -1)) && !bt f (g.R b).toNat) m := cntT_mono fun b hb hx => by
    simp at hx
    obtain ⟨a, ha, hR, hL⟩ := (Mat.r hM b hb).resolve_left hx.1
    rcases hM.l a ha with h1 | ⟨b', _, h1, h2, _⟩
    · omega
    · have : b' = b := by omega
      subst this
      rw [hR] at hx
      have hgb := (hcov a b' ha h2).resolve_left (by rw [show ((a : Int)).toNat = a from rfl] at hx; rw [hx.2]; exact Bool.false_ne_true)
      rw [hgb, hR, show ((a : Int)).toNat = a from rfl, decide_eq_false (show ¬ (a : Int) = -1 by omega)]
      have := hx.2
      rw [show ((a : Int)).toNat = a from rfl] at this
      rw [this]; rfl
  rw [bcnt_cntT, bcnt_cntT] at he
  have z1 : cntT (fun a => bt f a && freeB g a) n = 0 := by omega
  have z2 : cntT (fun b => bt h b && !!decide (g.R b = -1)) m = 0 := by omega
  have z3 : cntT (fun b => (bt h b && !decide (g.R b = -1)) && bt f (g.R b).toNat) m = 0 := by omega
  have none_of : ∀ {P : Nat → Bool} {N : Nat}, cntT P N = 0 → ∀ i, i < N → P i = false := fun {P N} h i hi => by
    cases hP : P i with
    | false => rfl
    | true => exact absurd (cntT_full (S := fun _ => false) (T := P) (fun _ _ h => absurd h Bool.false_ne_true) (by omega) i hi hP) Bool.false_ne_true
  refine fun b hb => (hI.least (fun b => b < m ∧ bt h b = true) (fun b hb => ?_) (fun a ha hL b hb => ?_) b hb).2
  · obtain ⟨hbm, hgb⟩ := hb
    have y2 := none_of z2 b hbm
    have y3 := none_of z3 b hbm
    rw [hgb] at y2 y3
    have hR : g.R b ≠ -1 := by simpa using y2
    obtain ⟨a, ha, hRa, hL⟩ := (Mat.r hM b hbm).resolve_left hR
    rw [hRa, show ((a : Int)).toNat = a from rfl, decide_eq_false (show ¬ (a : Int) = -1 by omega)] at y3
    have hfa : bt f a = false := by simpa using y3
    refine ⟨hbm, hR, fun c hc => ?_⟩
    rw [hRa, show ((a : Int)).toNat = a from rfl] at hc
    exact ⟨vg_nb hv a c hc, (hcov a c ha hc).resolve_left (by rw [hfa]; exact Bool.false_ne_true)⟩
  · have y1 := none_of z1 a ha
    have hfr : freeB g a = true := decide_eq_true hL
    rw [hfr] at y1
    have hfa : bt f a = false := by simpa using y1
    exact ⟨vg_nb hv a b hb, (hcov a b ha hb).resolve_left (by rw [hfa]; exact Bool.false_ne_true)⟩
end
end Go.Proofs.Ytmafnncpdccfdaa
