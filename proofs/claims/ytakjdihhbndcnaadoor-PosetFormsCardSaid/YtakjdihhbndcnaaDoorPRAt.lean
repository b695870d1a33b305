/- A relation that the call makes, as a table of truths: the reference's Less and put on it. -/
import Derived.Test.YtakjdihhbndcnaaDoorPCvs
namespace Go.Proofs.YtakjdihhbndcnaaDoor
open Go.RowKit Go.Sort
theorem tw_congr {T S : Nat → Bool} : ∀ {n : Nat}, (∀ j, j < n → T j = S j) → tw T n = tw S n
  | 0, _ => rfl
  | n + 1, h => by
    show (if T n = true then wt (tw T n) n else tw T n) = if S n = true then wt (tw S n) n else tw S n
    rw [h n (by omega), tw_congr (n := n) (fun j hj => h j (by omega))]
theorem words_ext {f g : Nat → Nat} (hf : ∀ m, U64 f m) (hg : ∀ m, U64 g m) (h : ∀ i, bt f i = bt g i) : f = g :=
  funext fun k => bt_ext (hf (k + 1)) (hg (k + 1)) (fun i _ => h i) k (by omega)
theorem tw_put {T : Nat → Bool} {n j : Nat} (hj : j < n) : wt (tw T n) j = tw (fun x => T x || decide (x = j)) n :=
  words_ext (fun m => wt_u64 (tw_u64 T n m) j) (fun m => tw_u64 _ n m) fun i => by
    rw [bt_wt, bt_tw, bt_tw]
    by_cases e : i = j
    · subst e; rw [decide_eq_true hj]; simp
    · rw [decide_eq_false e]; simp
/- the table with one pair more -/
def tset (S : Nat → Nat → Bool) (i j : Nat) : Nat → Nat → Bool := fun a b => S a b || (decide (a = i) && decide (b = j))
structure RAt (w : World) (base n m c : Nat) (A : Option Addr) (G : Nat → Nat) (S : Nat → Nat → Bool) : Prop where
  s : BSet w base (.slice A n c) n n m G (fun i => tw (S i) n)
variable {w w' : World} {base n m c : Nat} {A : Option Addr} {G : Nat → Nat} {S : Nat → Nat → Bool}
theorem RAt.below (h : RAt w base n m c A G S) (b : Below w.heap.size w w') : RAt w' base n m c A G S := ⟨h.s.below b⟩
theorem RAt.congr {S' : Nat → Nat → Bool} (h : RAt w base n m c A G S) (e : ∀ i, i < n → ∀ j, j < n → S i j = S' i j) : RAt w base n m c A G S' :=
  ⟨h.s.congr fun i hi => tw_congr (e i hi)⟩
theorem RAt.rel (h : RAt w base n m c A G S) (hn : n ≤ 512) (hm : m = (n + 63) / 64) : ∃ R, Rel w A n R ∧ Fresh base A n R ∧ VRel n R ∧ ∀ i, i < n → ∀ j, j < n → mat R i j = S i j := h.s.rel hn hm
theorem rat_less (h : RAt w base n m c A G S) (hn : n ≤ 512) (hm : m = (n + 63) / 64) {i j : Nat} (hi : i < n) (hj : j < n) :
    Calls Tryd.prog 22 #[.agg #[.slice A n c], .int .i64 i, .int .i64 j] w fun e w' => e = .returned (.bool (S i j)) ∧ Below w.heap.size w w' := by
  obtain ⟨R, h1, _, h2, h3⟩ := h.rel hn hm
  rw [← h3 i hi j hj]
  exact rless_any A n c i j R w h1 h2 hi hj
theorem rat_put (h : RAt w base n m c A G S) (hd : ∀ a b, a < n → b < n → a ≠ b → G a ≠ G b) (hn : n ≤ 512) (hm : m = (n + 63) / 64) {i j : Nat} (hi : i < n) (hj : j < n) (hb : base ≤ w.heap.size) :
    Calls Tryd.prog 59 #[.agg #[.slice A n c], .int .i64 i, .int .i64 j] w fun e w' => e = .returned (.tuple #[]) ∧ RAt w' base n m c A G (tset S i j) ∧ Below base w w' ∧ ∀ b, b < w.heap.size → b ≠ G i → w'.heap[b]? = w.heap[b]? := by
  refine (put_any A n c m i j base G (fun i => tw (S i) n) w h.s hd hi hj hn hm (tw_u64 _ _ _) hb).mono ?_
  rintro e w1 ⟨rfl, h1, h2, h3⟩
  refine ⟨rfl, ⟨h1.congr fun k _ => ?_⟩, h2, h3⟩
  by_cases e : k = i
  · subst e
    simp only [if_true]
    rw [tw_put hj]
    exact tw_congr fun x _ => by unfold tset; simp
  · simp only [if_neg e]
    exact tw_congr fun x _ => by unfold tset; rw [decide_eq_false e]; simp
end Go.Proofs.YtakjdihhbndcnaaDoor
