/- The contract of relation.Make. -/
import Derived.Test.YtngpfondnampjaaDoorRPair
namespace Go.Proofs.YtngpfondnampjaaDoor
open Go.RowKit
/- lists of integers -/
def zvals (l : List Int) : List Value := l.map fun i => .int .i64 i
def zgets (l : List Int) : Nat → Int := fun k => l.getD k 0
theorem own_zints {w : World} {base : Nat} {v : Value} {l : List Int} (h : w.ownsRow base 3 1 v l.length (zvals l)) : ∃ A c, v = .slice A l.length c ∧ Ints w A l.length (zgets l) := by
  rcases h.2 with ⟨rfl, hn⟩ | ⟨g, cap, cur, rfl, hb, hg, hnc, hcm, hcs, ht⟩
  · exact ⟨none, 0, by rw [hn], fun h0 => absurd h0 (by omega)⟩
  · refine ⟨_, _, rfl, fun h0 => ⟨g, 0, rfl, lt_of_block hg, fun k hk => ?_⟩⟩
    have hv : (zvals l)[k]? = some (.int .i64 (zgets l k)) := by
      unfold zvals zgets
      rw [List.getElem?_map, List.getElem?_eq_getElem hk, List.getD_eq_getElem?_getD, List.getElem?_eq_getElem hk]; rfl
    have hc := h.cells (g := g) rfl k _ hv
    have hadd : (⟨g, 0, none⟩ : Addr).add k = ⟨g, 0 + k, none⟩ := by unfold Addr.add; split <;> simp_all
    rw [hadd] at hc
    exact hc
/- block s holds n lists of the call's own -/
structure Lists (w : World) (s n : Nat) (V : Nat → Value) (L : Nat → List Int) : Prop where
  blk : w.rowIs s 25 n V
  own : ∀ i, i < n → w.ownsRow (s + 1) 3 1 (V i) (L i).length (zvals (L i))
  apart : ∀ i j, i < n → j < n → i ≠ j → (V i).ownBlock = none ∨ (V i).ownBlock ≠ (V j).ownBlock
theorem lists_made (w : World) (n : Nat) : Lists (w.alloc (.cells (madeCells #[.slice none 0 0] n) 25)) w.heap.size n (fun _ => .slice none 0 0) (fun _ => []) :=
  ⟨World.rowIs_made w _ n 25, fun _ _ => World.ownsRow_nil _ _ _ _, fun _ _ _ _ _ => Or.inl rfl⟩
theorem grown_setCell (w : World) (a : Addr) (u : Value) : w.grownBy (w.setCell a u) (some a.block) :=
  ⟨rfl, rfl, rfl, by simp [World.setCell], fun k _ hne => Below.heap_setCell w a u k (fun e => hne (by rw [e]))⟩
section
variable {w w' : World} {s n : Nat} {V : Nat → Value} {L : Nat → List Int}
theorem Lists.below (h : Lists w s n V L) (hb : Below w.heap.size w w') : Lists w' s n V L :=
  ⟨h.blk.of_block (hb.block s h.blk.lt), fun i hi => own_below (h.own i hi) hb, h.apart⟩
theorem Lists.push (h : Lists w s n V L) {i g cap : Nat} {x : Int} {w1 : World} (hi : i < n) (hown : w1.ownsRow (s + 1) 3 1 (.slice (some ⟨g, 0, none⟩) ((L i).length + 1) cap) ((L i).length + 1) (zvals (L i ++ [x])))
    (hg : w.grownBy w1 (V i).ownBlock) (hat : (V i).ownBlock = some g ∨ w.heap.size ≤ g) :
    Lists (w1.setCell ⟨s, i, none⟩ (.slice (some ⟨g, 0, none⟩) ((L i).length + 1) cap)) s n (fun k => if k = i then .slice (some ⟨g, 0, none⟩) ((L i).length + 1) cap else V k) (fun k => if k = i then L i ++ [x] else L k) := by
  have hs := h.blk.lt
  have hlt : ∀ k, k < n → ∀ b, (V k).ownBlock = some b → s + 1 ≤ b ∧ b < w.heap.size := fun k hk b hb => (h.own k hk).lt b hb
  have hblk : w1.rowIs s 25 n V := h.blk.of_block (hg.block s hs (fun e => by have := hlt i hi s e.symm; omega))
  have hgs : s + 1 ≤ g := by
    rcases hat with e | e
    · exact (hlt i hi g e).1
    · omega
  have far : ∀ {u : Value} {e : TypeId} {z m : Nat} {xs : List Value}, w1.ownsRow (s + 1) e z u m xs → (w1.setCell ⟨s, i, none⟩ (.slice (some ⟨g, 0, none⟩) ((L i).length + 1) cap)).ownsRow (s + 1) e z u m xs := fun {u e z m xs} hu =>
    hu.kept (grown_setCell w1 _ _) (by
      cases hb : u.ownBlock with
      | none => exact Or.inl rfl
      | some b => right; intro e; have := (hu.lt b hb).1; injection e with e; have e' : b = s := e; omega)
  refine ⟨hblk.set i _, fun k hk => ?_, fun a b ha hb hab => ?_⟩
  · by_cases e : k = i
    · subst e
      rw [if_pos rfl, if_pos rfl, List.length_append]
      exact far hown
    · rw [if_neg e, if_neg e]
      exact far ((h.own k hk).kept hg (h.apart k i hk hi e))
  · have fresh : ∀ k, k < n → k ≠ i → (V k).ownBlock = none ∨ (V k).ownBlock ≠ some g := fun k hk hki => by
      cases hb : (V k).ownBlock with
      | none => exact Or.inl rfl
      | some b =>
        right
        intro e
        injection e with e
        rcases hat with e2 | e2
        · rcases h.apart k i hk hi hki with h3 | h3
          · rw [hb] at h3; cases h3
          · exact h3 (by rw [hb, e2, e])
        · have := (hlt k hk b hb).2; omega
    by_cases ea : a = i
    · subst ea
      rw [if_pos rfl, if_neg (fun e => hab e.symm)]
      rcases fresh b hb (fun e => hab e.symm) with h1 | h1
      · right; rw [h1]; simp [Value.ownBlock]
      · right; exact fun e => h1 (by rw [← e]; rfl)
    · rw [if_neg ea]
      by_cases eb : b = i
      · subst eb
        rw [if_pos rfl]
        rcases fresh a ha ea with h1 | h1
        · exact Or.inl h1
        · right; exact fun e => h1 (by rw [e]; rfl)
      · rw [if_neg eb]; exact h.apart a b ha hb hab
end
/- pairs that came in -/
def Prs (w : World) (A : Option Addr) (m : Nat) (z : Nat → Int × Int) : Prop :=
  0 < m → ∃ b off, A = some ⟨b, off, none⟩ ∧ b < w.heap.size ∧ ∀ k, k < m → w.cell? ⟨b, off + k * 2, none⟩ = some (.int .i64 (z k).1) ∧ w.cell? ⟨b, off + k * 2 + 1, none⟩ = some (.int .i64 (z k).2)
theorem Prs.below {w w' : World} {A : Option Addr} {m : Nat} {z : Nat → Int × Int} (h : Prs w A m z) (hb : Below w.heap.size w w') : Prs w' A m z := fun hm => by
  obtain ⟨b, off, hA, hlt, hc⟩ := h hm
  exact ⟨b, off, hA, Nat.lt_of_lt_of_le hlt hb.size, fun k hk => ⟨(hb.cell (p := ⟨b, off + k * 2, none⟩) hlt).trans (hc k hk).1, (hb.cell (p := ⟨b, off + k * 2 + 1, none⟩) hlt).trans (hc k hk).2⟩⟩
/- the successors of i among the first K pairs -/
def lst (z : Nat → Int × Int) : Nat → Nat → List Int
  | 0, _ => []
  | K + 1, i => if i = (z K).1.toNat then lst z K i ++ [(z K).2] else lst z K i
theorem lst_len (z : Nat → Int × Int) : ∀ K i, (lst z K i).length ≤ K
  | 0, _ => Nat.le_refl _
  | K + 1, i => by
    have := lst_len z K i
    unfold lst
    split
    · rw [List.length_append, List.length_singleton]; omega
    · omega
theorem mem_lst {z : Nat → Int × Int} {x : Int} : ∀ {K i : Nat}, x ∈ lst z K i ↔ ∃ k, k < K ∧ (z k).1.toNat = i ∧ (z k).2 = x
  | 0, _ => by simp [lst]
  | K + 1, i => by
    have ih := @mem_lst z x K i
    unfold lst
    by_cases e : i = (z K).1.toNat
    · rw [if_pos e, List.mem_append, ih, List.mem_singleton]
      constructor
      · rintro (⟨k, hk, h1, h2⟩ | h)
        · exact ⟨k, by omega, h1, h2⟩
        · exact ⟨K, by omega, e.symm, h.symm⟩
      · rintro ⟨k, hk, h1, h2⟩
        by_cases ek : k = K
        · subst ek; exact Or.inr h2.symm
        · exact Or.inl ⟨k, by omega, h1, h2⟩
    · rw [if_neg e, ih]
      constructor
      · rintro ⟨k, hk, h1, h2⟩; exact ⟨k, by omega, h1, h2⟩
      · rintro ⟨k, hk, h1, h2⟩
        by_cases ek : k = K
        · subst ek; exact absurd h1.symm e
        · exact ⟨k, by omega, h1, h2⟩
/- the relation lies in blocks from base on -/
def Fresh (base : Nat) (A : Option Addr) (n : Nat) (R : Nat → RowD) : Prop := (∀ a, A = some a → base ≤ a.block) ∧ ∀ k, k < n → ∀ a, (R k).A = some a → base ≤ a.block
theorem Fresh.mono {base base' : Nat} {A : Option Addr} {n : Nat} {R : Nat → RowD} (h : Fresh base A n R) (hb : base' ≤ base) : Fresh base' A n R :=
  ⟨fun a ha => Nat.le_trans hb (h.1 a ha), fun k hk a ha => Nat.le_trans hb (h.2 k hk a ha)⟩
theorem Rel.far_new {w : World} {base : Nat} {A : Option Addr} {n : Nat} {R : Nat → RowD} (h : Rel w A n R) (hf : Fresh base A n R) {q : Addr} (hq : q.block < base) (u : Value) : Rel (w.setCell q u) A n R := fun hn => by
  obtain ⟨b, off, hA, hlt, hc⟩ := h hn
  have hne : b ≠ q.block := fun e => by have := hf.1 _ hA; simp only at this; omega
  have hcell : ∀ o, (w.setCell q u).cell? ⟨b, o, none⟩ = w.cell? ⟨b, o, none⟩ := fun o => World.cell?_of_block (w := w) (Below.heap_setCell w q u b hne)
  exact ⟨b, off, hA, by simpa [World.setCell] using hlt, fun k hk => ⟨(hcell _).trans (hc k hk).1, (hcell _).trans (hc k hk).2.1, (hc k hk).2.2.far (fun a ha e => by have := hf.2 k hk a ha; omega) u⟩⟩
/- what a function that returns a relation leaves -/
def RelOk (w : World) (n : Nat) (T : Nat → Nat → Bool) (e : Ending) (w' : World) : Prop :=
  ∃ A c R, e = .returned (.tuple #[.agg #[.slice A n c], .int .i64 0]) ∧ Rel w' A n R ∧ Fresh w.heap.size A n R ∧ VRel n R ∧ (∀ i, i < n → ∀ j, j < n → mat R i j = T i j) ∧ Below w.heap.size w w'
theorem Rows.fresh {w : World} {g n base : Nat} {R : Nat → RowD} (h : Rows w g n R) (hb : base ≤ g) : Fresh base (some ⟨g, 0, none⟩) n R :=
  ⟨fun a ha => by injection ha with ha; subst ha; exact hb, fun k hk a ha => by have := (h.wds k hk).2 a ha; omega⟩
def RelErr (w : World) (er : Int) (e : Ending) (w' : World) : Prop := e = .returned (.tuple #[.agg #[.slice none 0 0], .int .i64 er]) ∧ Below w.heap.size w w'
theorem make_size (N : Int) (A : Option Addr) (m c : Nat) (w : World) (hN : N < 0 ∨ 512 < N) : Calls Tryd.prog 62 #[.int .i64 N, .slice A m c] w (RelErr w 2) := by
  have b0 : Below w.heap.size w (w.alloc (.cells #[.slice none 0 0] 24)) := (Below.refl _ _).alloc (Nat.le_refl _) _
  rcases hN with h | h
  · go_enter Tryd.func62, Tryd.ntmps62
    go_wp2_with fail
    refine bodyPost_ret (v := .tuple #[.agg #[.slice none 0 0], .int .i64 2]) (by simp [results, Tryd.results62, go_sem]) rfl ?_
    exact ⟨rfl, b0⟩
  · go_enter Tryd.func62, Tryd.ntmps62
    go_wp2_with fail
    refine bodyPost_ret (v := .tuple #[.agg #[.slice none 0 0], .int .i64 2]) (by simp [results, Tryd.results62, go_sem]) rfl ?_
    exact ⟨rfl, b0⟩
end Go.Proofs.YtngpfondnampjaaDoor
