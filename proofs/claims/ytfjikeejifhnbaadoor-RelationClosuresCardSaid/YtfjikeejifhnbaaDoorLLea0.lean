/- RelationLeast: carriers of the walk, and what a reduction loses with a pair. -/
import Derived.Test.YtfjikeejifhnbaaDoorRDel
import Derived.Deep.RegionHeld3
namespace Go.Proofs.YtfjikeejifhnbaaDoor
open Go.RowKit
def pk2 (x y : RelD) : Nat → RelD | 0 => x | _ => y
structure PairB (w wr : World) (x y : RelD) : Prop where
  a : RelAt wr w.heap.size x.A x.n x.c
  b : RelAt wr (w.heap.size + 1) y.A y.n y.c
  ra : Rel wr x.A x.n x.R
  rb : Rel wr y.A y.n y.R
  f : Below w.heap.size w wr
theorem PairB.next {w wr w2 : World} {x y : RelD} (h : PairB w wr x y) (k : Below wr.heap.size wr w2) : PairB w w2 x y :=
  ⟨h.a.below k, h.b.below k, h.ra.below k, h.rb.below k, below_next h.f k⟩
theorem pairB_new (w : World) (x y : RelD) (ha : Rel w x.A x.n x.R) (hb : Rel w y.A y.n y.R) :
    PairB w ((w.alloc (.cells #[.slice x.A x.n x.c] 24)).alloc (.cells #[.slice y.A y.n y.c] 24)) x y := by
  have h1 := relAt_new (w.alloc (.cells #[.slice x.A x.n x.c] 24)) y.A y.n y.c
  have e1 : (w.alloc (.cells #[.slice x.A x.n x.c] 24)).heap.size = w.heap.size + 1 := by simp
  rw [e1] at h1
  have bb : Below w.heap.size w ((w.alloc (.cells #[.slice x.A x.n x.c] 24)).alloc (.cells #[.slice y.A y.n y.c] 24)) := ((Below.refl _ _).alloc (Nat.le_refl _) _).alloc (by simp) _
  exact ⟨(relAt_new w _ _ _).alloc _, h1, ha.below bb, hb.below bb, bb⟩
/- a boxed relation that need not be valid -/
structure Oth (w : World) (p : Nat) (x : RelD) : Prop where
  a : RelAt w p x.A x.n x.c
  r : Rel w x.A x.n x.R
theorem Oth.next {w w' : World} {p : Nat} {x : RelD} (h : Oth w p x) (b : Below w.heap.size w w') : Oth w' p x := ⟨h.a.below b, h.r.below b⟩
theorem Oth.nxt {w w' : World} {p : Nat} {x : RelD} (h : Oth w p x) (b : Below w.heap.size w w') (o : Obj) : Oth (w'.alloc o) p x := (h.next b).next ((Below.refl _ _).alloc (Nat.le_refl _) o)
theorem Prs.drew {w : World} {A : Option Addr} {m : Nat} {z : Nat → Int × Int} (h : Prs w A m z) : Prs w.drew A m z := h
/- a box of the round, laid before the call that fills it -/
theorem relAt_put {w : World} {p : Nat} {A A' : Option Addr} {n n' c c' : Nat} (h : RelAt w p A n c) : RelAt (w.setCell ⟨p, 0, none⟩ (.slice A' n' c')) p A' n' c' := by
  have := heap_setCell_same w p 0 _ _ (.slice A' n' c') h
  unfold RelAt
  simpa using this
theorem relAt_grown2 {w w' : World} {p n c g : Nat} {A : Option Addr} (h : RelAt w p A n c) (hg : w.grownBy w' (some g)) (hne : p ≠ g) : RelAt w' p A n c := (hg.block p h.lt (fun e => hne (by injection e))).trans h
theorem boxR_put {w : World} {p n c base : Nat} {A : Option Addr} {R : Nat → RowD} {T : Nat → Nat → Bool} (hz : RelAt w p none 0 0) (hr : Rel w A n R) (hf : Fresh base A n R) (hp : p < base) (hv : VRel n R) (hm : ∀ i, i < n → ∀ j, j < n → mat R i j = T i j) :
    BoxR (w.setCell ⟨p, 0, none⟩ (.slice A n c)) p n A c R T := ⟨relAt_put hz, hr.far_new hf hp _, hv, hm⟩
theorem below_alc {w0 w1 : World} (h : Below w0.heap.size w0 w1) (o : Obj) : Below w0.heap.size w0 (w1.alloc o) := h.alloc h.size o
theorem below_al (w : World) (o : Obj) : Below w.heap.size w (w.alloc o) := (Below.refl _ _).alloc (Nat.le_refl _) _
theorem below_put {B : Nat} {w w' : World} (h : Below B w w') {p : Nat} (hp : B ≤ p) (u : Value) : Below B w (w'.setCell ⟨p, 0, none⟩ u) := h.setCell (p := ⟨p, 0, none⟩) hp u
/- Make of pairs in memory that are in range -/
theorem make_prs (n m : Nat) (A : Option Addr) (c : Nat) (l : List (Nat × Nat)) (w : World) (hn : n ≤ 512) (hm : m = l.length) (hP : Prs w A m (zpair l)) (hl : l.length ≤ 1000000) (hin : ∀ p, p ∈ l → p.1 < n ∧ p.2 < n) :
    Calls Tryd.prog 11 #[.int .i64 n, .slice A m c] w (RelOk w n (fun i j => l.contains (i, j))) := by
  subst hm
  have hz : ∀ k, (hk : k < l.length) → zpair l k = (((l[k].1 : Nat) : Int), ((l[k].2 : Nat) : Int)) := fun k hk => by
    unfold zpair; rw [List.getD_eq_getElem?_getD, List.getElem?_eq_getElem hk]; rfl
  refine (make_fine n A l.length c (zpair l) w hn hP hl (fun k hk => ?_)).mono fun e w' h => relOk_congr h (fun i _ j _ => bool_ext ?_)
  · rw [hz k hk]
    have := hin _ (List.getElem_mem hk)
    exact ⟨by omega, by omega, by omega, by omega⟩
  · rw [TwoOf_iff, List.contains_iff_mem]
    constructor
    · rintro ⟨k, hk, h1, h2⟩
      rw [hz k hk] at h1 h2
      have e : l[k] = (i, j) := Prod.ext (Int.ofNat.inj h1) (Int.ofNat.inj h2)
      rw [← e]; exact List.getElem_mem hk
    · intro hm
      obtain ⟨k, hk⟩ := List.mem_iff_getElem?.1 hm
      obtain ⟨hkl, hke⟩ := List.getElem?_eq_some_iff.1 hk
      exact ⟨k, hkl, by rw [hz k hkl, hke]; exact ⟨rfl, rfl⟩⟩
theorem pairsL_nodup (T : Nat → Nat → Bool) (n : Nat) : ∀ K, (pairsL T n K).Nodup
  | 0 => List.nodup_nil
  | K + 1 => by
    unfold pairsL
    rw [List.nodup_append]
    refine ⟨pairsL_nodup T n K, ?_, ?_⟩
    · exact List.Pairwise.map _ (fun a b h e => h (Prod.mk.inj e).2) (rowL_nodup T n K)
    · rintro ⟨a, b⟩ h1 ⟨c, d⟩ h2 e
      obtain ⟨x, _, hx⟩ := List.mem_map.1 h2
      have h3 := (mem_pairsL.1 h1).1
      rw [← hx] at e
      have := (Prod.mk.inj e).1
      omega
theorem erase_lacks {l : List (Nat × Nat)} (h : l.Nodup) {K : Nat} (hK : K < l.length) : (l.eraseIdx K).contains l[K] = false := by
  cases hc : (l.eraseIdx K).contains l[K]
  · rfl
  · exfalso
    rw [List.contains_iff_mem] at hc
    obtain ⟨t, ht⟩ := List.mem_iff_getElem?.1 hc
    rw [List.getElem?_eraseIdx] at ht
    have key : ∀ a b, a < b → (hb : b < l.length) → l[a]? = some l[b] → False := fun a b hab hb he => by
      obtain ⟨_, he2⟩ := List.getElem?_eq_some_iff.1 he
      exact (List.pairwise_iff_getElem.1 h) a b (by omega) hb hab he2
    split at ht
    · exact key t K (by omega) hK ht
    · obtain ⟨ht1, ht2⟩ := List.getElem?_eq_some_iff.1 ht
      exact key K (t + 1) (by omega) ht1 (by rw [ht2, List.getElem?_eq_getElem hK])
theorem erase_sub {T : Nat → Nat → Bool} {n K i j : Nat} (h : ((pairsL T n n).eraseIdx K).contains (i, j) = true) : i < n ∧ j < n ∧ T i j = true := by
  rw [List.contains_iff_mem] at h
  exact mem_pairsL.1 (List.mem_of_mem_eraseIdx h)
theorem erase_len {l : List (Nat × Nat)} {K : Nat} (hK : K < l.length) : l.length - 1 = (l.eraseIdx K).length := by rw [List.length_eraseIdx, if_pos hK]
/- without one of its pairs, the reduction's closure is another one -/
theorem lost_at {T : Nat → Nat → Bool} {n K : Nat} (hK : K < (pairsL (red n T) n n).length) :
    ∃ a b, a < n ∧ b < n ∧ clo n (fun i j => ((pairsL (red n T) n n).eraseIdx K).contains (i, j)) a b ≠ clo n T a b := by
  obtain ⟨⟨a, b⟩, hp⟩ : ∃ p, p = (pairsL (red n T) n n)[K] := ⟨_, rfl⟩
  have hm : (a, b) ∈ pairsL (red n T) n n := by rw [hp]; exact List.getElem_mem hK
  obtain ⟨ha, hb, hab⟩ := mem_pairsL.1 hm
  refine ⟨a, b, ha, hb, ?_⟩
  have h1 : ((pairsL (red n T) n n).eraseIdx K).contains (a, b) = false := by
    rw [hp]; exact erase_lacks (pairsL_nodup _ n n) hK
  rw [red_lost (L := fun i j => ((pairsL (red n T) n n).eraseIdx K).contains (i, j)) ha hb hab (fun _ _ _ _ h => (erase_sub h).2.2) h1]
  have h2 : clo n T a b = true := clo_base (by unfold red at hab; rw [Bool.and_eq_true] at hab; exact hab.1)
  rw [h2]; decide
theorem pairs_boxL {w : World} {p n c : Nat} {A : Option Addr} {R : Nat → RowD} {T : Nat → Nat → Bool} (X : BoxR w p n A c R T) (hT : Tab w) {L : List (Nat × Nat)} (hL : L = pairsL T n n) : Calls Tryd.prog 16 #[.agg #[.slice A n c]] w (PairsOk w L) := by
  rw [hL]; exact pairs_box X hT
theorem clo_idem (n : Nat) (T : Nat → Nat → Bool) : ∀ i, i < n → ∀ j, j < n → clo n (clo n T) i j = clo n T i j := fun _ hi _ hj =>
  bool_ext ⟨fun h => clo_least (clo_trans n T) (fun _ _ _ _ h => h) hi hj h, clo_base⟩
theorem clo_steps (n : Nat) (T : Nat → Nat → Bool) : ∀ i, i < n → ∀ j, j < n → comp n (clo n T) (clo n T) i j = true → clo n T i j = true := fun i hi j hj h => by
  obtain ⟨k, hk, h1, h2⟩ := comp_iff.1 h
  exact clo_trans n T i k j hi hk hj h1 h2
theorem clo_in {n : Nat} {T S : Nat → Nat → Bool} (h1 : ∀ i, i < n → ∀ j, j < n → T i j = true → S i j = true) (h2 : ∀ i, i < n → ∀ j, j < n → comp n S S i j = true → S i j = true) : ∀ i, i < n → ∀ j, j < n → clo n T i j = true → S i j = true := fun _ hi _ hj h =>
  clo_least (fun a b c ha hb hc h3 h4 => h2 a ha c hc (comp_iff.2 ⟨b, hb, h3, h4⟩)) (fun a b ha hb h => h1 a ha b hb h) hi hj h
theorem red_sub (n : Nat) (T : Nat → Nat → Bool) : ∀ i, i < n → ∀ j, j < n → red n T i j = true → T i j = true := fun _ _ _ _ h => by
  unfold red at h; rw [Bool.and_eq_true] at h; exact h.1
end Go.Proofs.YtfjikeejifhnbaaDoor
