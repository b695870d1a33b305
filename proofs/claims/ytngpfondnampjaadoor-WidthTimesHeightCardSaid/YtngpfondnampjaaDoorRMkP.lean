/- Make of pairs of the call s own. -/
import Derived.Test.YtngpfondnampjaaDoorPCov
namespace Go.Proofs.YtngpfondnampjaaDoor
open Go.RowKit Go.Sort
theorem relOk_congr {w w' : World} {n : Nat} {T U : Nat → Nat → Bool} {e : Ending} (h : RelOk w n T e w') (he : ∀ i, i < n → ∀ j, j < n → T i j = U i j) : RelOk w n U e w' := by
  obtain ⟨A, c, R, h1, h2, h3, h4, h5, h6⟩ := h
  exact ⟨A, c, R, h1, h2, h3, h4, fun i hi j hj => (h5 i hi j hj).trans (he i hi j hj), h6⟩
theorem pvals_cons (x : Nat × Nat) (l : List (Nat × Nat)) : pvals (x :: l) = .int .i64 (x.1 : Nat) :: .int .i64 (x.2 : Nat) :: pvals l := rfl
theorem pvals_get {l : List (Nat × Nat)} : ∀ {k : Nat} {p : Nat × Nat}, l[k]? = some p → (pvals l)[k * 2]? = some (.int .i64 (p.1 : Nat)) ∧ (pvals l)[k * 2 + 1]? = some (.int .i64 (p.2 : Nat)) := by
  induction l with
  | nil => intro k p h; simp at h
  | cons x l ih =>
    intro k p h
    match k with
    | 0 =>
      have : x = p := by simpa using h
      subst this
      exact ⟨rfl, rfl⟩
    | k + 1 =>
      have h' : l[k]? = some p := by simpa using h
      obtain ⟨h1, h2⟩ := ih h'
      rw [pvals_cons, show (k + 1) * 2 = k * 2 + 1 + 1 by omega, List.getElem?_cons_succ, List.getElem?_cons_succ, List.getElem?_cons_succ, List.getElem?_cons_succ]
      exact ⟨h1, h2⟩
def zpair (l : List (Nat × Nat)) : Nat → Int × Int := fun k => (((l.getD k (0, 0)).1 : Nat), ((l.getD k (0, 0)).2 : Nat))
theorem own_prs {w : World} {base : Nat} {v : Value} {l : List (Nat × Nat)} (h : w.ownsRow base 78 2 v l.length (pvals l)) : ∃ A c, v = .slice A l.length c ∧ Prs w A l.length (zpair l) := by
  rcases h.2 with ⟨rfl, hn⟩ | ⟨g, cap, cur, rfl, hb, hg, hnc, hcm, hcs, ht⟩
  · exact ⟨none, 0, by rw [hn], fun h0 => absurd h0 (by omega)⟩
  · refine ⟨_, _, rfl, fun h0 => ⟨g, 0, rfl, lt_of_block hg, fun k hk => ?_⟩⟩
    obtain ⟨h1, h2⟩ := pvals_get (List.getElem?_eq_getElem hk)
    have e1 : zpair l k = (((l[k].1 : Nat) : Int), ((l[k].2 : Nat) : Int)) := by unfold zpair; rw [List.getD_eq_getElem?_getD, List.getElem?_eq_getElem hk]; rfl
    rw [e1, Nat.zero_add]
    exact ⟨(h.cellAt (k * 2) (by omega)).trans h1, (h.cellAt (k * 2 + 1) (by omega)).trans h2⟩
theorem zgets_mem {l : List Int} {k : Nat} (h : k < l.length) : zgets l k ∈ l := by
  unfold zgets
  rw [List.getD_eq_getElem?_getD, List.getElem?_eq_getElem h]; exact List.getElem_mem h
theorem lst_in {z : Nat → Int × Int} {m n i : Nat} (h : ∀ k, k < m → 0 ≤ (z k).2 ∧ (z k).2 < n) : InL n (lst z m i) := by
  intro k hk
  obtain ⟨q, hq, _, h2⟩ := mem_lst.1 (zgets_mem hk)
  rw [← h2]; exact h q hq
/- Make at numbers in range -/
theorem make_fine (n : Nat) (A : Option Addr) (m c : Nat) (z : Nat → Int × Int) (w : World) (hn : n ≤ 512) (h : Prs w A m z) (hm : m ≤ 1000000) (hz : ∀ k, k < m → 0 ≤ (z k).1 ∧ (z k).1 < n ∧ 0 ≤ (z k).2 ∧ (z k).2 < n) :
    Calls Tryd.prog 62 #[.int .i64 n, .slice A m c] w (RelOk w n (TwoOf z m)) :=
  (make_any n A m c z n true w hn h hm (fun k hk => ⟨(hz k hk).1, (hz k hk).2.1⟩) (Nat.le_refl _) (fun i _ => lst_in fun k hk => (hz k hk).2.2) (Or.inl ⟨rfl, rfl⟩)).mono fun e w' h => by
    rcases h with ⟨_, h⟩ | ⟨h, _⟩
    · exact h
    · cases h
/- Make of pairs in memory that are in range -/
theorem make_prs (n m : Nat) (A : Option Addr) (c : Nat) (l : List (Nat × Nat)) (w : World) (hn : n ≤ 512) (hm : m = l.length) (hP : Prs w A m (zpair l)) (hl : l.length ≤ 1000000) (hin : ∀ p, p ∈ l → p.1 < n ∧ p.2 < n) :
    Calls Tryd.prog 62 #[.int .i64 n, .slice A m c] w (RelOk w n (fun i j => l.contains (i, j))) := by
  subst hm
  have hz : ∀ k, (hk : k < l.length) → zpair l k = (((l[k].1 : Nat) : Int), ((l[k].2 : Nat) : Int)) := fun k hk => by
    unfold zpair; rw [List.getD_eq_getElem?_getD, List.getElem?_eq_getElem hk]; rfl
  refine (make_fine n A l.length c (zpair l) w hn hP hl (fun k hk => ?_)).mono fun e w' h => relOk_congr h (fun i _ j _ => bool_ext ?_)
  · rw [hz k hk]
    have := hin _ (List.getElem_mem hk)
    exact ⟨by omega, by omega, by omega, by omega⟩
  · rw [TwoOf_iff, List.contains_iff_mem]
    constructor
    · rintro ⟨k, hk, h1, h2⟩
      rw [hz k hk] at h1 h2
      have e : l[k] = (i, j) := Prod.ext (Int.ofNat.inj h1) (Int.ofNat.inj h2)
      rw [← e]; exact List.getElem_mem hk
    · intro hm
      obtain ⟨k, hk⟩ := List.mem_iff_getElem?.1 hm
      obtain ⟨hkl, hke⟩ := List.getElem?_eq_some_iff.1 hk
      exact ⟨k, hkl, by rw [hz k hkl, hke]; exact ⟨rfl, rfl⟩⟩
end Go.Proofs.YtngpfondnampjaaDoor
