/- Boxed relations with what they are, for the walks of the laws. -/
import Derived.Test.YtfjikeejifhnbaaDoorRGre
namespace Go.Proofs.YtfjikeejifhnbaaDoor
open Go.RowKit
structure BoxR (w : World) (p n : Nat) (A : Option Addr) (c : Nat) (R : Nat → RowD) (T : Nat → Nat → Bool) : Prop where
  a : RelAt w p A n c
  r : Rel w A n R
  v : VRel n R
  m : ∀ i, i < n → ∀ j, j < n → mat R i j = T i j
section
variable {w w' : World} {p q n c d : Nat} {A B : Option Addr} {R S : Nat → RowD} {T U : Nat → Nat → Bool}
theorem BoxR.next (h : BoxR w p n A c R T) (b : Below w.heap.size w w') : BoxR w' p n A c R T := ⟨h.a.below b, h.r.below b, h.v, h.m⟩
theorem BoxR.nxt (h : BoxR w p n A c R T) (b : Below w.heap.size w w') (o : Obj) : BoxR (w'.alloc o) p n A c R T := (h.next b).next ((Below.refl _ _).alloc (Nat.le_refl _) o)
theorem boxR_new (w : World) (A : Option Addr) (c : Nat) (hr : Rel w A n R) (hv : VRel n R) (hm : ∀ i, i < n → ∀ j, j < n → mat R i j = T i j) : BoxR (w.alloc (.cells #[.slice A n c] 24)) w.heap.size n A c R T :=
  ⟨relAt_new w A n c, hr.below ((Below.refl _ _).alloc (Nat.le_refl _) _), hv, hm⟩
theorem below_nxt {w0 : World} (h : Below w0.heap.size w0 w) (b : Below w.heap.size w w') (o : Obj) : Below w0.heap.size w0 (w'.alloc o) := (below_next h b).alloc (below_next h b).size o
theorem relOk_congr {e : Ending} (h : RelOk w n T e w') (he : ∀ i, i < n → ∀ j, j < n → T i j = U i j) : RelOk w n U e w' := by
  obtain ⟨A, c, R, h1, h2, h3, h4, h5, h6⟩ := h
  exact ⟨A, c, R, h1, h2, h3, h4, fun i hi j hj => (h5 i hi j hj).trans (he i hi j hj), h6⟩
theorem compose_box (X : BoxR w p n A c R T) (Y : BoxR w q n B d S U) (hT : Tab w) : Calls Tryd.prog 22 #[.agg #[.slice A n c], .agg #[.slice B n d]] w (RelOk w n (comp n T U)) :=
  (compose_ok A B n c d R S w X.r Y.r X.v Y.v hT).mono fun _ _ h => relOk_congr h (comp_congr X.m Y.m)
theorem inverse_box (X : BoxR w p n A c R T) (hT : Tab w) : Calls Tryd.prog 21 #[.agg #[.slice A n c]] w (RelOk w n (inv T)) :=
  (inverse_ok A n c R w X.r X.v hT).mono fun _ _ h => relOk_congr h (fun i hi j hj => X.m j hj i hi)
theorem closure_box (X : BoxR w p n A c R T) : Calls Tryd.prog 19 #[.agg #[.slice A n c]] w (RelOk w n (clo n T)) :=
  (closure_ok A n c R w X.r X.v).mono fun _ _ h => relOk_congr h (clo_congr X.m)
theorem reduction_box (X : BoxR w p n A c R T) (hT : Tab w) (hc : (orderOf n T).isSome = true) : Calls Tryd.prog 20 #[.agg #[.slice A n c]] w (RelOk w n (red n T)) :=
  (reduction_ok A n c R w X.r X.v hT (by rw [order_congr X.m]; exact hc)).mono fun _ _ h => relOk_congr h (red_congr X.m)
theorem pairs_box (X : BoxR w p n A c R T) (hT : Tab w) : Calls Tryd.prog 16 #[.agg #[.slice A n c]] w (PairsOk w (pairsL T n n)) := by
  have := pairs_ok A n c R w X.r X.v hT
  rw [pairsL_congr n X.m] at this; exact this
theorem same_box (X : BoxR w p n A c R T) (Y : BoxR w q n B d S U) (he : ∀ i, i < n → ∀ j, j < n → T i j = U i j) : Calls Tryd.prog 13 #[.agg #[.slice A n c], .agg #[.slice B n d]] w fun e w' => e = .returned (.bool true) ∧ Below w.heap.size w w' :=
  same_yes A B n c d R S w X.r Y.r X.v Y.v (fun i hi j hj => ((X.m i hi j hj).trans (he i hi j hj)).trans (Y.m i hi j hj).symm)
theorem same_box_no (X : BoxR w p n A c R T) (Y : BoxR w q n B d S U) (i j : Nat) (hi : i < n) (hj : j < n) (he : T i j ≠ U i j) : Calls Tryd.prog 13 #[.agg #[.slice A n c], .agg #[.slice B n d]] w fun e w' => e = .returned (.bool false) ∧ Below w.heap.size w w' :=
  same_no A B n c d R S w X.r Y.r X.v Y.v i j hi hj (by rw [X.m i hi j hj, Y.m i hi j hj]; exact he)
end
/- Make of a list of pairs in range -/
theorem make_list (n : Nat) (v : Value) (l : List (Nat × Nat)) (base : Nat) (w : World) (hn : n ≤ 512) (hown : w.ownsRow base 38 2 v l.length (pvals l)) (hl : l.length ≤ 1000000) (hin : ∀ p, p ∈ l → p.1 < n ∧ p.2 < n) :
    Calls Tryd.prog 11 #[.int .i64 n, v] w (RelOk w n (fun i j => l.contains (i, j))) := by
  obtain ⟨A, c, rfl, hP⟩ := own_prs hown
  have hz : ∀ k, (hk : k < l.length) → zpair l k = (((l[k].1 : Nat) : Int), ((l[k].2 : Nat) : Int)) := fun k hk => by
    unfold zpair; rw [List.getD_eq_getElem?_getD, List.getElem?_eq_getElem hk]; rfl
  refine (make_fine n A l.length c (zpair l) w hn hP hl (fun k hk => ?_)).mono fun e w' h => relOk_congr h (fun i _ j _ => bool_ext ?_)
  · rw [hz k hk]
    have := hin _ (List.getElem_mem hk)
    exact ⟨by omega, by omega, by omega, by omega⟩
  · rw [TwoOf_iff, List.contains_iff_mem]
    constructor
    · rintro ⟨k, hk, h1, h2⟩
      rw [hz k hk] at h1 h2
      have e : l[k] = (i, j) := Prod.ext (Int.ofNat.inj h1) (Int.ofNat.inj h2)
      rw [← e]; exact List.getElem_mem hk
    · intro hm
      obtain ⟨k, hk⟩ := List.mem_iff_getElem?.1 hm
      obtain ⟨hkl, hke⟩ := List.getElem?_eq_some_iff.1 hk
      exact ⟨k, hkl, by rw [hz k hkl, hke]; exact ⟨rfl, rfl⟩⟩
theorem pairs_contains {T : Nat → Nat → Bool} {n i j : Nat} (hi : i < n) (hj : j < n) : (pairsL T n n).contains (i, j) = T i j := by
  apply bool_ext
  rw [List.contains_iff_mem, mem_pairsL]
  exact ⟨fun h => h.2.2, fun h => ⟨hi, hj, h⟩⟩
/- three boxed relations -/
structure TriB (w wr : World) (X : Nat → RelD) : Prop where
  a : RelAt wr w.heap.size (X 0).A (X 0).n (X 0).c
  b : RelAt wr (w.heap.size + 1) (X 1).A (X 1).n (X 1).c
  c : RelAt wr (w.heap.size + 2) (X 2).A (X 2).n (X 2).c
  ra : Rel wr (X 0).A (X 0).n (X 0).R
  rb : Rel wr (X 1).A (X 1).n (X 1).R
  rc : Rel wr (X 2).A (X 2).n (X 2).R
  f : Below w.heap.size w wr
theorem TriB.next {w wr w2 : World} {X : Nat → RelD} (h : TriB w wr X) (k : Below wr.heap.size wr w2) : TriB w w2 X :=
  ⟨h.a.below k, h.b.below k, h.c.below k, h.ra.below k, h.rb.below k, h.rc.below k, below_next h.f k⟩
theorem triB_new (w : World) (X : Nat → RelD) (ha : Rel w (X 0).A (X 0).n (X 0).R) (hb : Rel w (X 1).A (X 1).n (X 1).R) (hc : Rel w (X 2).A (X 2).n (X 2).R) :
    TriB w (((w.alloc (.cells #[.slice (X 0).A (X 0).n (X 0).c] 24)).alloc (.cells #[.slice (X 1).A (X 1).n (X 1).c] 24)).alloc (.cells #[.slice (X 2).A (X 2).n (X 2).c] 24)) X := by
  have h1 := relAt_new (w.alloc (.cells #[.slice (X 0).A (X 0).n (X 0).c] 24)) (X 1).A (X 1).n (X 1).c
  have e1 : (w.alloc (.cells #[.slice (X 0).A (X 0).n (X 0).c] 24)).heap.size = w.heap.size + 1 := by simp
  rw [e1] at h1
  have h2 := relAt_new ((w.alloc (.cells #[.slice (X 0).A (X 0).n (X 0).c] 24)).alloc (.cells #[.slice (X 1).A (X 1).n (X 1).c] 24)) (X 2).A (X 2).n (X 2).c
  have e2 : ((w.alloc (.cells #[.slice (X 0).A (X 0).n (X 0).c] 24)).alloc (.cells #[.slice (X 1).A (X 1).n (X 1).c] 24)).heap.size = w.heap.size + 2 := by simp
  rw [e2] at h2
  have bb : Below w.heap.size w (((w.alloc (.cells #[.slice (X 0).A (X 0).n (X 0).c] 24)).alloc (.cells #[.slice (X 1).A (X 1).n (X 1).c] 24)).alloc (.cells #[.slice (X 2).A (X 2).n (X 2).c] 24)) := (((Below.refl _ _).alloc (Nat.le_refl _) _).alloc (by simp) _).alloc (by simp; omega) _
  exact ⟨((relAt_new w _ _ _).alloc _).alloc _, h1.alloc _, h2, ha.below bb, hb.below bb, hc.below bb, bb⟩
theorem rels_three (w : World) (X : Nat → RelD) (ha : Rel w (X 0).A (X 0).n (X 0).R) (hb : Rel w (X 1).A (X 1).n (X 1).R) (hc : Rel w (X 2).A (X 2).n (X 2).R) :
    RelsAt (w.alloc (.cells #[.slice (X 0).A (X 0).n (X 0).c, .slice (X 1).A (X 1).n (X 1).c, .slice (X 2).A (X 2).n (X 2).c] 24)) w.heap.size 3 X := by
  have bb : Below w.heap.size w (w.alloc (.cells #[.slice (X 0).A (X 0).n (X 0).c, .slice (X 1).A (X 1).n (X 1).c, .slice (X 2).A (X 2).n (X 2).c] 24)) := (Below.refl _ _).alloc (Nat.le_refl _) _
  refine ⟨by simp, fun k hk => ?_⟩
  match k, hk with
  | 0, _ => exact ⟨cell_of_row _ _ 0 _ _ _ (heap_alloc_new w _), ha.below bb⟩
  | 1, _ => exact ⟨cell_of_row _ _ 1 _ _ _ (heap_alloc_new w _), hb.below bb⟩
  | 2, _ => exact ⟨cell_of_row _ _ 2 _ _ _ (heap_alloc_new w _), hc.below bb⟩
theorem rels_two (w : World) (X : Nat → RelD) (ha : Rel w (X 0).A (X 0).n (X 0).R) (hb : Rel w (X 1).A (X 1).n (X 1).R) :
    RelsAt (w.alloc (.cells #[.slice (X 0).A (X 0).n (X 0).c, .slice (X 1).A (X 1).n (X 1).c] 24)) w.heap.size 2 X := by
  have bb : Below w.heap.size w (w.alloc (.cells #[.slice (X 0).A (X 0).n (X 0).c, .slice (X 1).A (X 1).n (X 1).c] 24)) := (Below.refl _ _).alloc (Nat.le_refl _) _
  refine ⟨by simp, fun k hk => ?_⟩
  match k, hk with
  | 0, _ => exact ⟨cell_of_row _ _ 0 _ _ _ (heap_alloc_new w _), ha.below bb⟩
  | 1, _ => exact ⟨cell_of_row _ _ 1 _ _ _ (heap_alloc_new w _), hb.below bb⟩
theorem rels_one (w : World) (X : Nat → RelD) (ha : Rel w (X 0).A (X 0).n (X 0).R) :
    RelsAt (w.alloc (.cells #[.slice (X 0).A (X 0).n (X 0).c] 24)) w.heap.size 1 X := by
  have bb : Below w.heap.size w (w.alloc (.cells #[.slice (X 0).A (X 0).n (X 0).c] 24)) := (Below.refl _ _).alloc (Nat.le_refl _) _
  refine ⟨by simp, fun k hk => ?_⟩
  match k, hk with
  | 0, _ => exact ⟨cell_of_row _ _ 0 _ _ _ (heap_alloc_new w _), ha.below bb⟩
end Go.Proofs.YtfjikeejifhnbaaDoor
