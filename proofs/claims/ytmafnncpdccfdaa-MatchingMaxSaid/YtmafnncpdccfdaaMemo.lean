/- What is made on the way: new words, results, boxed sets. -/
import Derived.Test.YtmafnncpdccfdaaSets
import Derived.RegionTactic
import Derived.BigRegion
import Derived.Laws.CopyOwn
import Derived.Laws.MakeOwn
import Derived.Deep.RegionWith
namespace Go.Proofs.Ytmafnncpdccfdaa
open Go.RowKit
theorem Try.info3 : (Try.prog.info? 3).map (fun i => (i.zero, i.size, i.bytes)) = some (some (.int .i64 0), 1, 8) := by kernel_rfl
theorem Try.info64 : (Try.prog.info? 64).map (fun i => (i.zero, i.size, i.bytes)) = some (some (.int .u64 0), 1, 8) := by kernel_rfl
/- what a function that returns a new slice of numbers leaves -/
def RowOut (w : World) (l : List Nat) (e : Ending) (w' : World) : Prop := ∃ v, e = .returned v ∧ w'.ownsRow w.heap.size 3 1 v l.length (vals l) ∧ Below w.heap.size w w'
theorem grown_below {w wr w1 : World} {base : Nat} {e : TypeId} {size : Nat} {v : Value} {n : Nat} {xs : List Value} {o : Obj} (h : Below w.heap.size w wr) (hown : wr.ownsRow base e size v n xs) (hb : w.heap.size ≤ base) (hg : (wr.alloc o).grownBy w1 v.ownBlock) : Below w.heap.size w w1 :=
  (h.alloc h.size o).grown hg (by have := h.size; simp; omega) (fun k hk => Nat.le_trans hb (hown.lt k hk).1)
theorem one_grown {w wr w1 : World} {N : Int} {A : Option Addr} {la ca : Nat} {e : TypeId} {size : Nat} {v : Value} {n : Nat} {xs : List Value} {o : Obj} (h : One w wr N A la ca) (hown : wr.ownsRow (w.heap.size + 1) e size v n xs) (hg : (wr.alloc o).grownBy w1 v.ownBlock) : One w w1 N A la ca :=
  ⟨(hg.block w.heap.size (by have := h.s.lt; simp; omega) (fun e => by have := (hown.lt _ e.symm).1; omega)).trans (h.s.alloc o), grown_below h.b hown (by omega) hg⟩
theorem own_below {w w' : World} {base : Nat} {e : TypeId} {size : Nat} {v : Value} {n : Nat} {xs : List Value} (h : w.ownsRow base e size v n xs) (hb : Below w.heap.size w w') : w'.ownsRow base e size v n xs :=
  h.kept (row := none) ⟨hb.os, hb.tape, hb.output, hb.size, fun k hk _ => hb.block k hk⟩ (by cases v.ownBlock <;> simp)
/- append of one number to a slice of the call's own -/
theorem append_one {ops : Array Oper} {rest : List Oper} {o : Oper} {a : Act} {Q : Exit → Act → World → Prop} (hgd : o.guard = none) (s x : Operand)
    (ho : o.op = .call { callee := .builtin .append, args := #[s, x], argTypes := #[53, 53] }) (base : Nat) (v : Value) (l : List Nat) (I : Int) (J : Nat) (w : World) (hs : a.eval s = v)
    (hown : w.ownsRow base 3 1 v l.length (vals l)) (hx : a.eval x = .slice (some ⟨w.heap.size, 0, none⟩) 1 1) (hl : l.length ≤ 1000000) (hbase : base ≤ w.heap.size) (hI : (J : Int) = I)
    (h : ∀ v' w', w'.ownsRow base 3 1 v' (l ++ [J]).length (vals (l ++ [J])) → (w.alloc (.cells #[.int .i64 I] 3)).grownBy w' v.ownBlock → wpList Try.prog ops Q rest (a.put o.dst v') w') :
    wpList Try.prog ops Q (o :: rest) a (w.alloc (.cells #[.int .i64 I] 3)) := by
  subst hI
  obtain ⟨i0, hi0, hz0, hz1, hz2⟩ := info_parts Try.info3
  refine wpList_append_own _ hgd s x 53 ho base 3 i0 (.int .i64 0) 1 8 Try.underlying53 hi0 hz0 hz1 hz2 rfl (by decide) v l.length (vals l) hs (hown.alloc _) ⟨w.heap.size, 0, none⟩ 1 1 [.int .i64 (J : Int)] hx rfl
    ?_ (by intro u hu; rw [List.mem_singleton.1 hu]; rfl) (by unfold maxLen; omega) (by omega) (by simp; omega) (fun v' w' h1 h2 _ => h v' w' ?_ h2)
  · intro j u hu
    match j with
    | 0 =>
      have hu' : Value.int .i64 (J : Int) = u := by simpa using hu
      subst hu'
      exact cell_of_row _ _ 0 _ _ _ (heap_alloc_new w _)
    | j + 1 => simp at hu
  · rw [vals_snoc, List.length_append]; exact h1
/- a new set of m words: its block holds f -/
def SetNew (w : World) (N : Int) (m : Nat) (f : Nat → Nat) (e : Ending) (w' : World) : Prop :=
  ∃ g, e = .returned (.agg #[.int .i64 N, .slice (some ⟨g, 0, none⟩) m m]) ∧ w.heap.size ≤ g ∧ w'.rowIs g 64 m (fun k => .int .u64 (f k : Nat)) ∧ Below w.heap.size w w'
theorem row_wds {w : World} {g m : Nat} {f : Nat → Nat} (h : w.rowIs g 64 m (fun k => .int .u64 (f k : Nat))) (hu : U64 f m) : Wds w (some ⟨g, 0, none⟩) m f :=
  ⟨hu, fun _ => ⟨g, 0, rfl, h.lt, fun k hk => by rw [Nat.zero_add]; exact h.cell hk⟩⟩
theorem make_words (m : Nat) (h : m ≤ 9) : ∀ w : World, (Instr.makeSlice 28 (.int .i64 (m : Int)) (.int .i64 (m : Int))).run Try.prog w = .ok (.slice (some ⟨w.heap.size, 0, none⟩) m m) (w.alloc (.cells (madeCells #[.int .u64 0] m) 64)) :=
  fun w => run_make_row' (P := Try.prog) 28 64 (.int .u64 0) 8 Try.underlying28 Try.info64 rfl .i64 .i64 m (by omega) (by omega) w
theorem or_pow (x i : Nat) (hx : x < 18446744073709551616) : bits .or .u64 (x : Int) ((2 : Int) ^ (i % 64)) = ((x ||| 2 ^ (i % 64) : Nat) : Int) := by
  have e : ((2 : Int) ^ (i % 64)) = ((2 ^ (i % 64) : Nat) : Int) := by simp
  rw [e]; exact u64_or_nat x _ hx (pow_lt _ (by omega))
theorem shl_one (i : Nat) : IntKind.u64.wrap ((2 : Int) ^ (i % 64)) = ((2 ^ (i % 64) : Nat) : Int) := by
  have e : ((2 : Int) ^ (i % 64)) = ((2 ^ (i % 64) : Nat) : Int) := by simp
  rw [e]
  exact wrap_u64 _ (Int.natCast_nonneg _) (Int.ofNat_lt.2 (pow_lt (i % 64) (by omega)))
/- the cell of the result, whatever it holds -/
def Res (w : World) (r : Nat) : Prop := ∃ x y, w.heap[r]? = some (.cells #[x, y] 30 (0, 0))
def RC (w : World) (r k : Nat) : Value := (w.cell? ⟨r, k, none⟩).getD undef
theorem Res.cells {w : World} {r : Nat} (h : Res w r) : w.cell? ⟨r, 0, none⟩ = some (RC w r 0) ∧ w.cell? ⟨r, 1, none⟩ = some (RC w r 1) ∧ w.frozen? ⟨r, 0, none⟩ = false ∧ w.frozen? ⟨r, 1, none⟩ = false := by
  obtain ⟨x, y, hb⟩ := h
  have h0 : w.cell? ⟨r, 0, none⟩ = some x := cell_of_row _ _ 0 _ _ _ hb
  have h1 : w.cell? ⟨r, 1, none⟩ = some y := cell_of_row _ _ 1 _ _ _ hb
  refine ⟨by unfold RC; rw [h0]; rfl, by unfold RC; rw [h1]; rfl, by simp [World.frozen?, hb], by simp [World.frozen?, hb]⟩
theorem Res.lt {w : World} {r : Nat} (h : Res w r) : r < w.heap.size := by obtain ⟨x, y, hb⟩ := h; exact lt_of_block hb
theorem Res.set0 {w : World} {r : Nat} (h : Res w r) (u : Value) : Res (w.setCell ⟨r, 0, none⟩ u) r := by
  obtain ⟨x, y, hb⟩ := h
  exact ⟨u, y, by simp [World.setCell, Array.getElem?_modify, hb]⟩
theorem Res.set1 {w : World} {r : Nat} (h : Res w r) (u : Value) : Res (w.setCell ⟨r, 1, none⟩ u) r := by
  obtain ⟨x, y, hb⟩ := h
  exact ⟨x, u, by simp [World.setCell, Array.getElem?_modify, hb]⟩
theorem Res.stored {w : World} {r : Nat} {x y : Value} (h : Res ((w.setCell ⟨r, 0, none⟩ x).setCell ⟨r, 1, none⟩ y) r) :
    ((w.setCell ⟨r, 0, none⟩ x).setCell ⟨r, 1, none⟩ y).cell? ⟨r, 0, none⟩ = some x ∧ ((w.setCell ⟨r, 0, none⟩ x).setCell ⟨r, 1, none⟩ y).cell? ⟨r, 1, none⟩ = some y := by
  obtain ⟨a, b, hb⟩ := h
  rw [cell_of_row _ _ 0 _ _ _ hb, cell_of_row _ _ 1 _ _ _ hb]
  simp only [World.setCell, Array.getElem?_modify, if_true] at hb
  rcases hw : w.heap[r]? with _ | o
  · rw [hw] at hb; simp at hb
  · rw [hw] at hb
    cases o <;> simp at hb
    rename_i cs t fr
    obtain ⟨hc, _⟩ := hb
    have h0 : (((cs.setIfInBounds 0 x).setIfInBounds 1 y)[0]?) = some a := by rw [hc]; rfl
    have h1 : (((cs.setIfInBounds 0 x).setIfInBounds 1 y)[1]?) = some b := by rw [hc]; rfl
    have hs : cs.size = 2 := by have := congrArg Array.size hc; simpa using this
    rw [Array.getElem?_setIfInBounds_ne (by decide), Array.getElem?_setIfInBounds_self_of_lt (by omega)] at h0
    rw [Array.getElem?_setIfInBounds_self_of_lt (by simp; omega)] at h1
    exact ⟨by simpa using h0.symm, by simpa using h1.symm⟩
/- one boxed set, and the cell of the result -/
structure OneR (w wr : World) (N : Int) (A : Option Addr) (la ca : Nat) : Prop where
  s : SetAt wr w.heap.size N A la ca
  r : Res wr (w.heap.size + 1)
  b : Below w.heap.size w wr
section
variable {w wr w1 w2 : World} {N : Int} {A : Option Addr} {la ca : Nat}
theorem oneR_new (w : World) (N : Int) (A : Option Addr) (la ca : Nat) : OneR w ((w.alloc (.cells #[.int .i64 N, .slice A la ca] 30)).alloc (.cells #[.int .i64 0, .slice none 0 0] 30)) N A la ca := by
  have h := two_new w N 0 A none la ca 0 0
  exact ⟨h.s, ⟨_, _, h.t⟩, h.b⟩
theorem OneR.full (h : OneR w wr N A la ca) : OneR w wr N A la ca ∧ wr.cell? ⟨w.heap.size, 0, none⟩ = some (.int .i64 N) ∧ wr.cell? ⟨w.heap.size, 1, none⟩ = some (.slice A la ca) ∧ wr.cell? ⟨w.heap.size + 1, 0, none⟩ = some (RC wr (w.heap.size + 1) 0) ∧ wr.cell? ⟨w.heap.size + 1, 1, none⟩ = some (RC wr (w.heap.size + 1) 1) ∧ wr.frozen? ⟨w.heap.size + 1, 0, none⟩ = false ∧ wr.frozen? ⟨w.heap.size + 1, 1, none⟩ = false := ⟨h, h.s.c0, h.s.c1, h.r.cells⟩
theorem OneR.drew (h : OneR w wr N A la ca) : OneR w wr.drew N A la ca := ⟨h.s, h.r, h.b.drew⟩
theorem OneR.next (h : OneR w wr N A la ca) (k : Below wr.heap.size wr w2) : OneR w w2 N A la ca :=
  ⟨h.s.below k, by obtain ⟨x, y, hb⟩ := h.r; exact ⟨x, y, (k.block _ h.r.lt).trans hb⟩, below_next h.b k⟩
theorem OneR.alloc (h : OneR w wr N A la ca) (o : Obj) : OneR w (wr.alloc o) N A la ca := h.next ((Below.refl _ _).alloc (Nat.le_refl _) o)
theorem OneR.grown {base : Nat} {e : TypeId} {size : Nat} {v : Value} {n : Nat} {xs : List Value} (h : OneR w wr N A la ca) (hown : wr.ownsRow base e size v n xs) (hb : w.heap.size + 2 ≤ base) (hg : wr.grownBy w1 v.ownBlock) : OneR w w1 N A la ca :=
  ⟨(hg.block _ h.s.lt (fun e => by have := (hown.lt _ e.symm).1; omega)).trans h.s, by
    obtain ⟨x, y, hx⟩ := h.r
    exact ⟨x, y, (hg.block _ h.r.lt (fun e => by have := (hown.lt _ e.symm).1; omega)).trans hx⟩, h.b.grown hg (by have := h.r.lt; omega) (fun k hk => by have := (hown.lt k hk).1; omega)⟩
theorem OneR.stored (h : OneR w wr N A la ca) (x y : Value) : OneR w ((wr.setCell ⟨w.heap.size + 1, 0, none⟩ x).setCell ⟨w.heap.size + 1, 1, none⟩ y) N A la ca :=
  ⟨(h.s.far (by show w.heap.size ≠ w.heap.size + 1; omega) _).far (by show w.heap.size ≠ w.heap.size + 1; omega) _, (h.r.set0 _).set1 _, (h.b.setCell (by show w.heap.size ≤ w.heap.size + 1; omega) _).setCell (by show w.heap.size ≤ w.heap.size + 1; omega) _⟩
end
theorem cell_new (w : World) (v : Value) : (w.alloc (.cells #[v] 3)).cell? ((⟨w.heap.size, 0, none⟩ : Addr).add 0) = some v := cell_of_row _ _ 0 _ _ _ (heap_alloc_new w _)
theorem cell_was {w w2 : World} {v : Value} {n : Nat} (b : Below (w.alloc (.cells #[v] 3)).drew.heap.size (w.alloc (.cells #[v] 3)).drew w2) (hn : n = w.heap.size) : w2.cell? ((⟨n, 0, none⟩ : Addr).add 0) = some v := by
  subst hn
  exact (b.cell (p := (⟨w.heap.size, 0, none⟩ : Addr).add 0) (by simp [Addr.add])).trans (show (w.alloc (.cells #[v] 3)).cell? _ = _ from cell_new w v)
theorem size54 : (Try.prog.info? 64).map (·.size) = some 1 := by kernel_rfl
def wvals (f : Nat → Nat) (m : Nat) : List Value := (List.range m).map fun k => .int .u64 (f k : Nat)
end Go.Proofs.Ytmafnncpdccfdaa
