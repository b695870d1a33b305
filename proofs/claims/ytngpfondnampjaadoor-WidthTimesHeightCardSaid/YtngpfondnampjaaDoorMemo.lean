/- What is made on the way: new words, results, boxed sets. -/
import Derived.Test.YtngpfondnampjaaDoorSets
import Derived.RegionTactic
import Derived.BigRegion
import Derived.Laws.CopyOwn
import Derived.Laws.MakeOwn
import Derived.Deep.RegionWith
namespace Go.Proofs.YtngpfondnampjaaDoor
open Go.RowKit
theorem Tryd.info3 : (Tryd.prog.info? 3).map (fun i => (i.zero, i.size, i.bytes)) = some (some (.int .i64 0), 1, 8) := by kernel_rfl
theorem Tryd.info60 : (Tryd.prog.info? 60).map (fun i => (i.zero, i.size, i.bytes)) = some (some (.int .u64 0), 1, 8) := by kernel_rfl
/- what a function that returns a new slice of numbers leaves -/
def RowOut (w : World) (l : List Nat) (e : Ending) (w' : World) : Prop := ∃ v, e = .returned v ∧ w'.ownsRow w.heap.size 3 1 v l.length (vals l) ∧ Below w.heap.size w w'
theorem grown_below {w wr w1 : World} {base : Nat} {e : TypeId} {size : Nat} {v : Value} {n : Nat} {xs : List Value} {o : Obj} (h : Below w.heap.size w wr) (hown : wr.ownsRow base e size v n xs) (hb : w.heap.size ≤ base) (hg : (wr.alloc o).grownBy w1 v.ownBlock) : Below w.heap.size w w1 :=
  (h.alloc h.size o).grown hg (by have := h.size; simp; omega) (fun k hk => Nat.le_trans hb (hown.lt k hk).1)
theorem one_grown {w wr w1 : World} {N : Int} {A : Option Addr} {la ca : Nat} {e : TypeId} {size : Nat} {v : Value} {n : Nat} {xs : List Value} {o : Obj} (h : One w wr N A la ca) (hown : wr.ownsRow (w.heap.size + 1) e size v n xs) (hg : (wr.alloc o).grownBy w1 v.ownBlock) : One w w1 N A la ca :=
  ⟨(hg.block w.heap.size (by have := h.s.lt; simp; omega) (fun e => by have := (hown.lt _ e.symm).1; omega)).trans (h.s.alloc o), grown_below h.b hown (by omega) hg⟩
theorem own_below {w w' : World} {base : Nat} {e : TypeId} {size : Nat} {v : Value} {n : Nat} {xs : List Value} (h : w.ownsRow base e size v n xs) (hb : Below w.heap.size w w') : w'.ownsRow base e size v n xs :=
  h.kept (row := none) ⟨hb.os, hb.tape, hb.output, hb.size, fun k hk _ => hb.block k hk⟩ (by cases v.ownBlock <;> simp)
/- append of one number to a slice of the call's own -/
theorem append_one {ops : Array Oper} {rest : List Oper} {o : Oper} {a : Act} {Q : Exit → Act → World → Prop} (hgd : o.guard = none) (s x : Operand)
    (ho : o.op = .call { callee := .builtin .append, args := #[s, x], argTypes := #[25, 25] }) (base : Nat) (v : Value) (l : List Nat) (I : Int) (J : Nat) (w : World) (hs : a.eval s = v)
    (hown : w.ownsRow base 3 1 v l.length (vals l)) (hx : a.eval x = .slice (some ⟨w.heap.size, 0, none⟩) 1 1) (hl : l.length ≤ 1000000) (hbase : base ≤ w.heap.size) (hI : (J : Int) = I)
    (h : ∀ v' w', w'.ownsRow base 3 1 v' (l ++ [J]).length (vals (l ++ [J])) → (w.alloc (.cells #[.int .i64 I] 3)).grownBy w' v.ownBlock → wpList Tryd.prog ops Q rest (a.put o.dst v') w') :
    wpList Tryd.prog ops Q (o :: rest) a (w.alloc (.cells #[.int .i64 I] 3)) := by
  subst hI
  obtain ⟨i0, hi0, hz0, hz1, hz2⟩ := info_parts Tryd.info3
  refine wpList_append_own _ hgd s x 25 ho base 3 i0 (.int .i64 0) 1 8 Tryd.underlying25 hi0 hz0 hz1 hz2 rfl (by decide) v l.length (vals l) hs (hown.alloc _) ⟨w.heap.size, 0, none⟩ 1 1 [.int .i64 (J : Int)] hx rfl
    ?_ (by intro u hu; rw [List.mem_singleton.1 hu]; rfl) (by unfold maxLen; omega) (by omega) (by simp; omega) (fun v' w' h1 h2 _ => h v' w' ?_ h2)
  · intro j u hu
    match j with
    | 0 =>
      have hu' : Value.int .i64 (J : Int) = u := by simpa using hu
      subst hu'
      exact cell_of_row _ _ 0 _ _ _ (heap_alloc_new w _)
    | j + 1 => simp at hu
  · rw [vals_snoc, List.length_append]; exact h1
/- a new set of m words: its block holds f -/
def SetNew (w : World) (N : Int) (m : Nat) (f : Nat → Nat) (e : Ending) (w' : World) : Prop :=
  ∃ g, e = .returned (.agg #[.int .i64 N, .slice (some ⟨g, 0, none⟩) m m]) ∧ w.heap.size ≤ g ∧ w'.rowIs g 60 m (fun k => .int .u64 (f k : Nat)) ∧ Below w.heap.size w w'
theorem row_wds {w : World} {g m : Nat} {f : Nat → Nat} (h : w.rowIs g 60 m (fun k => .int .u64 (f k : Nat))) (hu : U64 f m) : Wds w (some ⟨g, 0, none⟩) m f :=
  ⟨hu, fun _ => ⟨g, 0, rfl, h.lt, fun k hk => by rw [Nat.zero_add]; exact h.cell hk⟩⟩
theorem make_words (m : Nat) (h : m ≤ 9) : ∀ w : World, (Instr.makeSlice 26 (.int .i64 (m : Int)) (.int .i64 (m : Int))).run Tryd.prog w = .ok (.slice (some ⟨w.heap.size, 0, none⟩) m m) (w.alloc (.cells (madeCells #[.int .u64 0] m) 60)) :=
  fun w => run_make_row' (P := Tryd.prog) 26 60 (.int .u64 0) 8 Tryd.underlying26 Tryd.info60 rfl .i64 .i64 m (by omega) (by omega) w
theorem or_pow (x i : Nat) (hx : x < 18446744073709551616) : bits .or .u64 (x : Int) ((2 : Int) ^ (i % 64)) = ((x ||| 2 ^ (i % 64) : Nat) : Int) := by
  have e : ((2 : Int) ^ (i % 64)) = ((2 ^ (i % 64) : Nat) : Int) := by simp
  rw [e]; exact u64_or_nat x _ hx (pow_lt _ (by omega))
theorem shl_one (i : Nat) : IntKind.u64.wrap ((2 : Int) ^ (i % 64)) = ((2 ^ (i % 64) : Nat) : Int) := by
  have e : ((2 : Int) ^ (i % 64)) = ((2 ^ (i % 64) : Nat) : Int) := by simp
  rw [e]
  exact wrap_u64 _ (Int.natCast_nonneg _) (Int.ofNat_lt.2 (pow_lt (i % 64) (by omega)))
/- the cell of the result, whatever it holds -/
def Res (w : World) (r : Nat) : Prop := ∃ x y, w.heap[r]? = some (.cells #[x, y] 28 (0, 0))
def RC (w : World) (r k : Nat) : Value := (w.cell? ⟨r, k, none⟩).getD undef
theorem Res.cells {w : World} {r : Nat} (h : Res w r) : w.cell? ⟨r, 0, none⟩ = some (RC w r 0) ∧ w.cell? ⟨r, 1, none⟩ = some (RC w r 1) ∧ w.frozen? ⟨r, 0, none⟩ = false ∧ w.frozen? ⟨r, 1, none⟩ = false := by
  obtain ⟨x, y, hb⟩ := h
  have h0 : w.cell? ⟨r, 0, none⟩ = some x := cell_of_row _ _ 0 _ _ _ hb
  have h1 : w.cell? ⟨r, 1, none⟩ = some y := cell_of_row _ _ 1 _ _ _ hb
  refine ⟨by unfold RC; rw [h0]; rfl, by unfold RC; rw [h1]; rfl, by simp [World.frozen?, hb], by simp [World.frozen?, hb]⟩
theorem Res.lt {w : World} {r : Nat} (h : Res w r) : r < w.heap.size := by obtain ⟨x, y, hb⟩ := h; exact lt_of_block hb
theorem Res.set0 {w : World} {r : Nat} (h : Res w r) (u : Value) : Res (w.setCell ⟨r, 0, none⟩ u) r := by
  obtain ⟨x, y, hb⟩ := h
  exact ⟨u, y, by simp [World.setCell, Array.getElem?_modify, hb]⟩
theorem Res.set1 {w : World} {r : Nat} (h : Res w r) (u : Value) : Res (w.setCell ⟨r, 1, none⟩ u) r := by
  obtain ⟨x, y, hb⟩ := h
  exact ⟨x, u, by simp [World.setCell, Array.getElem?_modify, hb]⟩
theorem Res.stored {w : World} {r : Nat} {x y : Value} (h : Res ((w.setCell ⟨r, 0, none⟩ x).setCell ⟨r, 1, none⟩ y) r) :
    ((w.setCell ⟨r, 0, none⟩ x).setCell ⟨r, 1, none⟩ y).cell? ⟨r, 0, none⟩ = some x ∧ ((w.setCell ⟨r, 0, none⟩ x).setCell ⟨r, 1, none⟩ y).cell? ⟨r, 1, none⟩ = some y := by
  obtain ⟨a, b, hb⟩ := h
  rw [cell_of_row _ _ 0 _ _ _ hb, cell_of_row _ _ 1 _ _ _ hb]
  simp only [World.setCell, Array.getElem?_modify, if_true] at hb
  rcases hw : w.heap[r]? with _ | o
  · rw [hw] at hb; simp at hb
  · rw [hw] at hb
    cases o <;> simp at hb
    rename_i cs t fr
    obtain ⟨hc, _⟩ := hb
    have h0 : (((cs.setIfInBounds 0 x).setIfInBounds 1 y)[0]?) = some a := by rw [hc]; rfl
    have h1 : (((cs.setIfInBounds 0 x).setIfInBounds 1 y)[1]?) = some b := by rw [hc]; rfl
    have hs : cs.size = 2 := by have := congrArg Array.size hc; simpa using this
    rw [Array.getElem?_setIfInBounds_ne (by decide), Array.getElem?_setIfInBounds_self_of_lt (by omega)] at h0
    rw [Array.getElem?_setIfInBounds_self_of_lt (by simp; omega)] at h1
    exact ⟨by simpa using h0.symm, by simpa using h1.symm⟩
/- one boxed set, and the cell of the result -/
structure OneR (w wr : World) (N : Int) (A : Option Addr) (la ca : Nat) : Prop where
  s : SetAt wr w.heap.size N A la ca
  r : Res wr (w.heap.size + 1)
  b : Below w.heap.size w wr
section
variable {w wr w1 w2 : World} {N : Int} {A : Option Addr} {la ca : Nat}
theorem oneR_new (w : World) (N : Int) (A : Option Addr) (la ca : Nat) : OneR w ((w.alloc (.cells #[.int .i64 N, .slice A la ca] 28)).alloc (.cells #[.int .i64 0, .slice none 0 0] 28)) N A la ca := by
  have h := two_new w N 0 A none la ca 0 0
  exact ⟨h.s, ⟨_, _, h.t⟩, h.b⟩
theorem OneR.full (h : OneR w wr N A la ca) : OneR w wr N A la ca ∧ wr.cell? ⟨w.heap.size, 0, none⟩ = some (.int .i64 N) ∧ wr.cell? ⟨w.heap.size, 1, none⟩ = some (.slice A la ca) ∧ wr.cell? ⟨w.heap.size + 1, 0, none⟩ = some (RC wr (w.heap.size + 1) 0) ∧ wr.cell? ⟨w.heap.size + 1, 1, none⟩ = some (RC wr (w.heap.size + 1) 1) ∧ wr.frozen? ⟨w.heap.size + 1, 0, none⟩ = false ∧ wr.frozen? ⟨w.heap.size + 1, 1, none⟩ = false := ⟨h, h.s.c0, h.s.c1, h.r.cells⟩
theorem OneR.drew (h : OneR w wr N A la ca) : OneR w wr.drew N A la ca := ⟨h.s, h.r, h.b.drew⟩
theorem OneR.next (h : OneR w wr N A la ca) (k : Below wr.heap.size wr w2) : OneR w w2 N A la ca :=
  ⟨h.s.below k, by obtain ⟨x, y, hb⟩ := h.r; exact ⟨x, y, (k.block _ h.r.lt).trans hb⟩, below_next h.b k⟩
theorem OneR.alloc (h : OneR w wr N A la ca) (o : Obj) : OneR w (wr.alloc o) N A la ca := h.next ((Below.refl _ _).alloc (Nat.le_refl _) o)
theorem OneR.grown {base : Nat} {e : TypeId} {size : Nat} {v : Value} {n : Nat} {xs : List Value} (h : OneR w wr N A la ca) (hown : wr.ownsRow base e size v n xs) (hb : w.heap.size + 2 ≤ base) (hg : wr.grownBy w1 v.ownBlock) : OneR w w1 N A la ca :=
  ⟨(hg.block _ h.s.lt (fun e => by have := (hown.lt _ e.symm).1; omega)).trans h.s, by
    obtain ⟨x, y, hx⟩ := h.r
    exact ⟨x, y, (hg.block _ h.r.lt (fun e => by have := (hown.lt _ e.symm).1; omega)).trans hx⟩, h.b.grown hg (by have := h.r.lt; omega) (fun k hk => by have := (hown.lt k hk).1; omega)⟩
theorem OneR.stored (h : OneR w wr N A la ca) (x y : Value) : OneR w ((wr.setCell ⟨w.heap.size + 1, 0, none⟩ x).setCell ⟨w.heap.size + 1, 1, none⟩ y) N A la ca :=
  ⟨(h.s.far (by show w.heap.size ≠ w.heap.size + 1; omega) _).far (by show w.heap.size ≠ w.heap.size + 1; omega) _, (h.r.set0 _).set1 _, (h.b.setCell (by show w.heap.size ≤ w.heap.size + 1; omega) _).setCell (by show w.heap.size ≤ w.heap.size + 1; omega) _⟩
end
theorem cell_new (w : World) (v : Value) : (w.alloc (.cells #[v] 3)).cell? ((⟨w.heap.size, 0, none⟩ : Addr).add 0) = some v := cell_of_row _ _ 0 _ _ _ (heap_alloc_new w _)
theorem cell_was {w w2 : World} {v : Value} {n : Nat} (b : Below (w.alloc (.cells #[v] 3)).drew.heap.size (w.alloc (.cells #[v] 3)).drew w2) (hn : n = w.heap.size) : w2.cell? ((⟨n, 0, none⟩ : Addr).add 0) = some v := by
  subst hn
  exact (b.cell (p := (⟨w.heap.size, 0, none⟩ : Addr).add 0) (by simp [Addr.add])).trans (show (w.alloc (.cells #[v] 3)).cell? _ = _ from cell_new w v)
/- two boxed sets and the cell of the result -/
structure Three (w wr : World) (N M : Int) (A B : Option Addr) (la ca lb cb : Nat) : Prop where
  two : Two w wr N M A B la ca lb cb
  r : SetAt wr (w.heap.size + 2) 0 none 0 0
theorem three_new (w : World) (N M : Int) (A B : Option Addr) (la ca lb cb : Nat) :
    Three w (((w.alloc (.cells #[.int .i64 N, .slice A la ca] 28)).alloc (.cells #[.int .i64 M, .slice B lb cb] 28)).alloc (.cells #[.int .i64 0, .slice none 0 0] 28)) N M A B la ca lb cb := by
  refine ⟨(two_new w N M A B la ca lb cb).alloc _, ?_⟩
  have h := setAt_new ((w.alloc (.cells #[.int .i64 N, .slice A la ca] 28)).alloc (.cells #[.int .i64 M, .slice B lb cb] 28)) 0 none 0 0
  have e : ((w.alloc (.cells #[.int .i64 N, .slice A la ca] 28)).alloc (.cells #[.int .i64 M, .slice B lb cb] 28)).heap.size = w.heap.size + 2 := by simp
  rw [e] at h; exact h
/- two boxed sets, and the cell of the result -/
structure TwoR (w wr : World) (N M : Int) (A B : Option Addr) (la ca lb cb : Nat) : Prop where
  two : Two w wr N M A B la ca lb cb
  r : Res wr (w.heap.size + 2)
section
variable {w wr w1 w2 : World} {N M : Int} {A B : Option Addr} {la ca lb cb : Nat}
theorem twoR_new (w : World) (N M : Int) (A B : Option Addr) (la ca lb cb : Nat) :
    TwoR w (((w.alloc (.cells #[.int .i64 N, .slice A la ca] 28)).alloc (.cells #[.int .i64 M, .slice B lb cb] 28)).alloc (.cells #[.int .i64 0, .slice none 0 0] 28)) N M A B la ca lb cb :=
  have h := three_new w N M A B la ca lb cb
  ⟨h.two, ⟨_, _, h.r⟩⟩
theorem TwoR.full (h : TwoR w wr N M A B la ca lb cb) : TwoR w wr N M A B la ca lb cb ∧ wr.cell? ⟨w.heap.size, 0, none⟩ = some (.int .i64 N) ∧ wr.cell? ⟨w.heap.size, 1, none⟩ = some (.slice A la ca) ∧ wr.cell? ⟨w.heap.size + 1, 0, none⟩ = some (.int .i64 M) ∧ wr.cell? ⟨w.heap.size + 1, 1, none⟩ = some (.slice B lb cb) ∧
    wr.cell? ⟨w.heap.size + 2, 0, none⟩ = some (RC wr (w.heap.size + 2) 0) ∧ wr.cell? ⟨w.heap.size + 2, 1, none⟩ = some (RC wr (w.heap.size + 2) 1) ∧ wr.frozen? ⟨w.heap.size + 2, 0, none⟩ = false ∧ wr.frozen? ⟨w.heap.size + 2, 1, none⟩ = false :=
  ⟨h, h.two.s.c0, h.two.s.c1, h.two.t.c0, h.two.t.c1, h.r.cells⟩
theorem TwoR.drew (h : TwoR w wr N M A B la ca lb cb) : TwoR w wr.drew N M A B la ca lb cb := ⟨⟨h.two.s, h.two.t, h.two.b.drew⟩, h.r⟩
theorem TwoR.next (h : TwoR w wr N M A B la ca lb cb) (k : Below wr.heap.size wr w2) : TwoR w w2 N M A B la ca lb cb :=
  ⟨h.two.next k, by obtain ⟨x, y, hb⟩ := h.r; exact ⟨x, y, (k.block _ h.r.lt).trans hb⟩⟩
theorem TwoR.alloc (h : TwoR w wr N M A B la ca lb cb) (o : Obj) : TwoR w (wr.alloc o) N M A B la ca lb cb := h.next ((Below.refl _ _).alloc (Nat.le_refl _) o)
theorem TwoR.grown {base : Nat} {e : TypeId} {size : Nat} {v : Value} {n : Nat} {xs : List Value} (h : TwoR w wr N M A B la ca lb cb) (hown : wr.ownsRow base e size v n xs) (hb : w.heap.size + 3 ≤ base) (hg : wr.grownBy w1 v.ownBlock) : TwoR w w1 N M A B la ca lb cb :=
  ⟨⟨(hg.block _ h.two.s.lt (fun e => by have := (hown.lt _ e.symm).1; omega)).trans h.two.s, (hg.block _ h.two.t.lt (fun e => by have := (hown.lt _ e.symm).1; omega)).trans h.two.t, h.two.b.grown hg (by have := h.r.lt; omega) (fun k hk => by have := (hown.lt k hk).1; omega)⟩, by
    obtain ⟨x, y, hx⟩ := h.r
    exact ⟨x, y, (hg.block _ h.r.lt (fun e => by have := (hown.lt _ e.symm).1; omega)).trans hx⟩⟩
theorem TwoR.stored (h : TwoR w wr N M A B la ca lb cb) (x y : Value) : TwoR w ((wr.setCell ⟨w.heap.size + 2, 0, none⟩ x).setCell ⟨w.heap.size + 2, 1, none⟩ y) N M A B la ca lb cb :=
  ⟨⟨(h.two.s.far (by show w.heap.size ≠ w.heap.size + 2; omega) _).far (by show w.heap.size ≠ w.heap.size + 2; omega) _, (h.two.t.far (by show w.heap.size + 1 ≠ w.heap.size + 2; omega) _).far (by show w.heap.size + 1 ≠ w.heap.size + 2; omega) _, (h.two.b.setCell (by show w.heap.size ≤ w.heap.size + 2; omega) _).setCell (by show w.heap.size ≤ w.heap.size + 2; omega) _⟩, (h.r.set0 _).set1 _⟩
end
def orW (x y : Nat) : Nat := x ||| y
def andW (x y : Nat) : Nat := x &&& y
theorem size54 : (Tryd.prog.info? 60).map (·.size) = some 1 := by kernel_rfl
def wvals (f : Nat → Nat) (m : Nat) : List Value := (List.range m).map fun k => .int .u64 (f k : Nat)
/- copy of the words of a set into new ones -/
theorem copy_new {ops : Array Oper} {rest : List Oper} {o : Oper} {a : Act} {Q : Exit → Act → World → Prop} (hgd : o.guard = none) (d s : Operand)
    (ho : o.op = .call { callee := .builtin .copy, args := #[d, s], argTypes := #[26, 26] }) (w : World) (m : Nat) (A : Option Addr) (cap : Nat) (f : Nat → Nat) (hm : 0 < m)
    (hd : a.eval d = .slice (some ⟨w.heap.size, 0, none⟩) m m) (hs : a.eval s = .slice A m cap) (hw : Wds w A m f)
    (h : ∀ w', w'.rowIs w.heap.size 60 m (fun k => .int .u64 (f k : Nat)) → Below w.heap.size w w' → w.heap.size < w'.heap.size → wpList Tryd.prog ops Q rest (a.put o.dst (goInt m)) w') :
    wpList Tryd.prog ops Q (o :: rest) a (w.alloc (.cells (madeCells #[.int .u64 0] m) 60)) := by
  obtain ⟨b, off, rfl, hb, hc⟩ := hw.2 hm
  have hl : (wvals f m).length = m := by simp [wvals]
  have hcur := heap_alloc_new w (.cells (madeCells #[.int .u64 0] m) 60)
  refine wpList_copy_own hgd d s 26 26 ho 60 Tryd.underlying26 size54 w.heap.size 0 m m ⟨b, off, none⟩ m cap hd hs (madeCells #[.int .u64 0] m) 60 hcur (wvals f m) (by rw [hl]; exact (Nat.min_self m).symm) ?_ (by rw [hl, size_madeCells]; omega) ?_ ?_
  · intro j v hv
    have hj : j < m := by
      rcases Nat.lt_or_ge j m with h1 | h1
      · exact h1
      · rw [List.getElem?_eq_none (by omega)] at hv; cases hv
    have hv2 : v = .int .u64 (f j : Nat) := by
      unfold wvals at hv
      rw [List.getElem?_map, List.getElem?_range hj] at hv
      exact (Option.some.inj hv).symm
    have hadd : (⟨b, off, none⟩ : Addr).add j = ⟨b, off + j, none⟩ := by unfold Addr.add; split <;> simp_all
    rw [hadd, hv2, World.cell?_alloc_past _ _ _ hb]
    exact hc j hj
  · intro v hv
    obtain ⟨k, _, rfl⟩ := List.mem_map.1 hv
    rfl
  · rw [hl]
    have hz : ((madeCells #[.int .u64 0] m).toList.take 0 ++ (wvals f m ++ (madeCells #[.int .u64 0] m).toList.drop (0 + m))).toArray = (wvals f m).toArray := by
      have : (madeCells #[Value.int .u64 0] m).toList.drop (0 + m) = [] := List.drop_of_length_le (by rw [Array.length_toList, size_madeCells]; omega)
      rw [this]; simp
    rw [hz]
    refine h _ ⟨(wvals f m).toArray, setRow_heap _ _ _ _ _ _ hcur, by simpa using hl, fun i hi => ?_⟩ (below_setRow ((Below.refl _ _).alloc (Nat.le_refl _) _) (Nat.le_refl _) _) (by simp [World.setRow])
    simp [wvals, hi]
end Go.Proofs.YtngpfondnampjaaDoor
