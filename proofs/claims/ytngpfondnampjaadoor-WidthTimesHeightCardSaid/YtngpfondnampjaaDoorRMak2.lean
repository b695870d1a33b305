/- The contract of relation.Make: a number that is out of range; the relation. -/
import Derived.Test.YtngpfondnampjaaDoorRMake
namespace Go.Proofs.YtngpfondnampjaaDoor
open Go.RowKit
/- append of one integer, and where it lies; the element lies in block B -/
theorem append_int {ops : Array Oper} {rest : List Oper} {o : Oper} {a : Act} {Q : Exit → Act → World → Prop} (hgd : o.guard = none) (s x : Operand)
    (ho : o.op = .call { callee := .builtin .append, args := #[s, x], argTypes := #[25, 25] }) (base : Nat) (v : Value) (l : List Int) (I : Int) (w : World) (hs : a.eval s = v)
    (hown : w.ownsRow base 3 1 v l.length (zvals l)) (B : Nat) (hx : a.eval x = .slice (some ⟨B, 0, none⟩) 1 1) (hB : w.heap[B]? = some (.cells #[.int .i64 I] 3 (0, 0))) (hl : l.length ≤ 1000000) (hbase : base ≤ w.heap.size)
    (h : ∀ g cap w', w'.ownsRow base 3 1 (.slice (some ⟨g, 0, none⟩) (l.length + 1) cap) (l.length + 1) (zvals (l ++ [I])) → w.grownBy w' v.ownBlock → (v.ownBlock = some g ∨ w.heap.size ≤ g) → wpList Tryd.prog ops Q rest (a.put o.dst (.slice (some ⟨g, 0, none⟩) (l.length + 1) cap)) w') :
    wpList Tryd.prog ops Q (o :: rest) a w := by
  refine append_one_at hgd s x 25 3 ho 1 8 _ Tryd.underlying25 Tryd.info3 rfl (by decide) (by decide) base v l.length (zvals l) hs hown B #[.int .i64 I] hx hB rfl ?_ hl hbase (fun g cap w' h1 h2 h3 _ => h g cap w' ?_ h2 ?_)
  · intro u hu
    simp at hu
    subst hu; rfl
  · have e : zvals (l ++ [I]) = zvals l ++ [.int .i64 I] := by simp [zvals]
    rw [e]; exact h1
  · exact h3.imp id (fun e => by rw [e]; exact Nat.le_refl _)
theorem heap_new_at (W : World) (o : Obj) (k : Nat) (hk : W.heap.size = k) : (W.alloc o).drew.heap[k]? = some o := by subst hk; exact heap_alloc_new W o
theorem Lists.slot {w w5 : World} {s n : Nat} {V : Nat → Value} {L : Nat → List Int} {i : Nat} (h : Lists w s n V L) (hi : i < n) (hg : w.grownBy w5 (V i).ownBlock) : w5.cell? ⟨s, i, none⟩ = some (V i) ∧ w5.frozen? ⟨s, i, none⟩ = false := by
  have hblk : w5.rowIs s 25 n V := h.blk.of_block (hg.block s h.blk.lt (fun e => by have := ((h.own i hi).lt s e.symm).1; omega))
  exact ⟨hblk.cell hi, hblk.frozen i⟩
theorem relAt_grown {w w5 : World} {p n c base : Nat} {A : Option Addr} {e : TypeId} {z m : Nat} {v : Value} {xs : List Value} (h : RelAt w p A n c) (hown : w.ownsRow base e z v m xs) (hb : p < base) (hg : w.grownBy w5 v.ownBlock) : RelAt w5 p A n c :=
  (hg.block p h.lt (fun e => by have := (hown.lt p e.symm).1; omega)).trans h
theorem lst_step (z : Nat → Int × Int) (K : Nat) : lst z (K + 1) = fun i => if i = (z K).1.toNat then lst z K (z K).1.toNat ++ [(z K).2] else lst z K i := by
  funext i
  show (if i = (z K).1.toNat then lst z K i ++ [(z K).2] else lst z K i) = _
  by_cases e : i = (z K).1.toNat
  · rw [if_pos e, if_pos e, e]
  · rw [if_neg e, if_neg e]
def TwoOf (z : Nat → Int × Int) (m : Nat) : Nat → Nat → Bool := fun i j => (List.range m).any fun k => decide ((z k).1 = (i : Int) ∧ (z k).2 = (j : Int))
set_option maxRecDepth 100000 in
set_option maxHeartbeats 4000000 in
theorem make_i (n : Nat) (A : Option Addr) (m c : Nat) (z : Nat → Int × Int) (J : Nat) (w : World) (hn : n ≤ 512) (h : Prs w A m z) (hm : m ≤ 1000000) (hJ : J < m) (hz : ∀ k, k < J → 0 ≤ (z k).1 ∧ (z k).1 < n) (hbad : (z J).1 < 0 ∨ n ≤ (z J).1) :
    Calls Tryd.prog 62 #[.int .i64 n, .slice A m c] w (RelErr w 2) := by
  have HI := Lib.hid h; clear h
  have HZ := Lib.hid hz; clear hz
  have HX := Lib.hid hbad; clear hbad
  have hd1 : decide ((n : Int) < 0) = false := decide_eq_false (by omega)
  have hd2 : decide (512 < (n : Int)) = false := decide_eq_false (by omega)
  have hmk := make_lists n (by omega)
  go_enter Tryd.func62, Tryd.ntmps62
  go_wp2_with fail
  clear hmk hd1 hd2
  have b0 : Below w.heap.size w (w.alloc (.cells #[.slice none 0 0] 24)) := (Below.refl _ _).alloc (Nat.le_refl _) _
  have r0 := relAt_new w none 0 0
  have hL := lists_made (w.alloc (.cells #[.slice none 0 0] 24)) n
  have r1 := r0.alloc (.cells (madeCells #[.slice none 0 0] n) 25)
  have b1 := b0.alloc b0.size (.cells (madeCells #[.slice none 0 0] n) 25)
  have hs : (w.alloc (.cells #[.slice none 0 0] 24)).heap.size = w.heap.size + 1 := by simp
  rw [hs] at hL
  clear hs b0 r0
  go_loopw [8, 9, 10, 26] (fun _ _ _ i wr => ∃ (K : Nat) (V : Nat → Value), K ≤ J ∧ i = .int .i64 K ∧ Lists wr (w.heap.size + 1) n V (lst z K) ∧ RelAt wr w.heap.size none 0 0 ∧ Below w.heap.size w wr) (fun _ _ _ i _ => J - (intOf i).toNat)
  case atStart => exact ⟨0, _, by omega, rfl, hL, r1, b1⟩
  case round =>
    clear hL r1 b1
    obtain ⟨K, V, hK, rfl, hL, hr, hB⟩ := hrel
    have hKm : K < m := by omega
    obtain ⟨b, off, rfl, hbl, hcz⟩ := (HI.out.below hB) (by omega)
    obtain ⟨x0, x1⟩ := hcz K (by omega)
    clear hcz
    by_cases hKJ : K < J
    · obtain ⟨hz0, hz1⟩ := HZ.out K hKJ
      have HST := Lib.hid (lst_step z K)
      generalize (z K).2 = y at *
      obtain ⟨x, hx⟩ : ∃ x : Nat, (z K).1 = (x : Int) := ⟨(z K).1.toNat, by omega⟩
      rw [hx] at x0 hz0 hz1 HST
      clear hx
      simp only [Int.toNat_natCast] at HST
      have hxn : x < n := by omega
      have hd1 : decide ((x : Int) < 0) = false := decide_eq_false (by omega)
      have hd2 : decide ((n : Int) ≤ (x : Int)) = false := decide_eq_false (by omega)
      have hlen := lst_len z K x
      have hl6 : (lst z K x).length ≤ 1000000 := by omega
      clear hlen
      have bA : Below wr.heap.size wr (wr.alloc (.cells #[.int .i64 (x : Int), .int .i64 y] 78)) := (Below.refl _ _).alloc (Nat.le_refl _) _
      have hLA := hL.below bA
      have hrA := hr.below bA
      have BA := below_next hB bA
      have y0 := hLA.blk.cell hxn
      have hbs : w.heap.size + 1 + 1 ≤ wr.heap.size + 1 := by have := hL.blk.lt; omega
      have hown := hLA.own x hxn
      clear hL hr hB bA
      go_wp2_with fail
      go_region
      all_goals
        clear x0 x1
        go_wp2_with (at_builtin; refine append_int rfl (.tmp 47) (.tmp 49) rfl (w.heap.size + 1 + 1) (V x) (lst z K x) y _ rfl (hown.alloc (.cells #[.int .i64 y] 3)) (wr.heap.size + 1) rfl (heap_new_at _ _ _ (by simp)) hl6 (by simp; omega) ?_)
        intro g cap w5 hown5 hg5 hat
        have bC : Below (wr.alloc (.cells #[.int .i64 (x : Int), .int .i64 y] 78)).heap.size (wr.alloc (.cells #[.int .i64 (x : Int), .int .i64 y] 78)) ((wr.alloc (.cells #[.int .i64 (x : Int), .int .i64 y] 78)).alloc (.cells #[.int .i64 y] 3)).drew := ((Below.refl _ _).alloc (Nat.le_refl _) _).drew
        have hLC := hLA.below bC
        have hrC := hrA.below bC
        have BC := below_next BA bC
        obtain ⟨s0, s1⟩ := hLC.slot hxn hg5
        have hL5 := hLC.push hxn hown5 hg5 (hat.imp id fun h => by simpa using h)
        have hr5 := (relAt_grown hrC (hLC.own x hxn) (by omega) hg5).far (q := ⟨w.heap.size + 1, x, none⟩) (by show w.heap.size ≠ w.heap.size + 1; omega) (.slice (some ⟨g, 0, none⟩) ((lst z K x).length + 1) cap)
        have B5 := (grown_below2 BC (hLC.own x hxn) (by omega) hg5).setCell (p := ⟨w.heap.size + 1, x, none⟩) (by show w.heap.size ≤ w.heap.size + 1; omega) (.slice (some ⟨g, 0, none⟩) ((lst z K x).length + 1) cap)
        rw [← HST.out] at hL5
        clear hLA hrA BA hLC hrC BC bC y0 hown hg5 hown5 hat
        go_wp2_with fail
        go_roundw
        case rel => exact ⟨K + 1, _, by omega, by go_num, hL5, hr5, B5⟩
        case measure => simp [intOf]; omega
    · obtain rfl : K = J := by omega
      have HXX := Lib.hid HX.out
      clear hL
      have hr2 := hr.alloc (.cells #[.int .i64 (z K).1, .int .i64 (z K).2] 78)
      have r0 := hr2.c0
      have f0 := hr2.free 0
      have B2 := hB.alloc hB.size (.cells #[.int .i64 (z K).1, .int .i64 (z K).2] 78)
      clear hr hB
      generalize (z K).1 = x at *
      generalize (z K).2 = y at *
      by_cases hneg : x < 0
      · have hd1 : decide (x < 0) = true := decide_eq_true hneg
        go_wp2_with fail
        go_region
        all_goals
          go_wp2_with fail
          refine bodyPost_ret (v := .tuple #[.agg #[.slice none 0 0], .int .i64 2]) (by simp [results, Tryd.results62, go_sem, r0]) rfl ?_
          exact ⟨rfl, (B2.setCell (Nat.le_refl _) _).drew⟩
      · have hd1 : decide (x < 0) = false := decide_eq_false hneg
        have hge : (n : Int) ≤ x := by rcases HXX.out with h | h; exact absurd h hneg; exact h
        have hd2 : decide ((n : Int) ≤ x) = true := decide_eq_true hge
        go_wp2_with fail
        go_region
        all_goals
          go_wp2_with fail
          refine bodyPost_ret (v := .tuple #[.agg #[.slice none 0 0], .int .i64 2]) (by simp [results, Tryd.results62, go_sem, r0]) rfl ?_
          exact ⟨rfl, (B2.setCell (Nat.le_refl _) _).drew⟩
end Go.Proofs.YtngpfondnampjaaDoor
