/- Relations in memory: rows that are sets, lists of pairs, tables of truths; append of one element; new rows. -/
import Derived.Test.YtngpfondnampjaaDoorBitE
import Derived.Test.YtngpfondnampjaaDoorBitG
import Derived.Deep.AppendLies
namespace Go.Proofs.YtngpfondnampjaaDoor
open Go.RowKit
/- one row: its number, and its words -/
structure RowD where
  N : Int
  A : Option Addr
  l : Nat
  c : Nat
  f : Nat → Nat
/- the slice value at A holds n rows -/
def Rel (w : World) (A : Option Addr) (n : Nat) (R : Nat → RowD) : Prop :=
  0 < n → ∃ b off, A = some ⟨b, off, none⟩ ∧ b < w.heap.size ∧ ∀ k, k < n → w.cell? ⟨b, off + k * 2, none⟩ = some (.int .i64 (R k).N) ∧ w.cell? ⟨b, off + k * 2 + 1, none⟩ = some (.slice (R k).A (R k).l (R k).c) ∧ Wds w (R k).A (R k).l (R k).f
theorem Rel.below {w w' : World} {A : Option Addr} {n : Nat} {R : Nat → RowD} (h : Rel w A n R) (hb : Below w.heap.size w w') : Rel w' A n R := fun hn => by
  obtain ⟨b, off, hA, hlt, hc⟩ := h hn
  exact ⟨b, off, hA, Nat.lt_of_lt_of_le hlt hb.size, fun k hk => ⟨(hb.cell (p := ⟨b, off + k * 2, none⟩) hlt).trans (hc k hk).1, (hb.cell (p := ⟨b, off + k * 2 + 1, none⟩) hlt).trans (hc k hk).2.1, (hc k hk).2.2.below hb⟩⟩
def VRow (n : Nat) (r : RowD) : Prop := r.N = (n : Int) ∧ Vld (n : Int) r.l r.f
def VRel (n : Nat) (R : Nat → RowD) : Prop := n ≤ 512 ∧ ∀ k, k < n → VRow n (R k)
/- the relation's pairs as a table -/
def mat (R : Nat → RowD) : Nat → Nat → Bool := fun i j => bt (R i).f j
theorem VRel.l {n : Nat} {R : Nat → RowD} (h : VRel n R) {k : Nat} (hk : k < n) : (R k).l = (n + 63) / 64 := by
  have := (h.2 k hk).2.2.2.1
  simpa using this
/- block p is a boxed relation -/
def RelAt (w : World) (p : Nat) (A : Option Addr) (n c : Nat) : Prop := w.heap[p]? = some (.cells #[.slice A n c] 24 (0, 0))
section
variable {w w' : World} {p n c : Nat} {A : Option Addr}
theorem RelAt.lt (h : RelAt w p A n c) : p < w.heap.size := lt_of_block h
theorem RelAt.c0 (h : RelAt w p A n c) : w.cell? ⟨p, 0, none⟩ = some (.slice A n c) := cell_of_row _ _ 0 _ _ _ h
theorem RelAt.free (h : RelAt w p A n c) (k : Nat) : w.frozen? ⟨p, k, none⟩ = false := by
  unfold RelAt at h
  simp [World.frozen?, h]
theorem RelAt.below (h : RelAt w p A n c) (hb : Below w.heap.size w w') : RelAt w' p A n c := (hb.block p h.lt).trans h
theorem RelAt.far (h : RelAt w p A n c) {q : Addr} (hq : p ≠ q.block) (u : Value) : RelAt (w.setCell q u) p A n c := (Below.heap_setCell w q u p hq).trans h
theorem RelAt.alloc (h : RelAt w p A n c) (o : Obj) : RelAt (w.alloc o) p A n c := (Below.heap_alloc w o p h.lt).trans h
end
theorem relAt_new (w : World) (A : Option Addr) (n c : Nat) : RelAt (w.alloc (.cells #[.slice A n c] 24)) w.heap.size A n c := heap_alloc_new w _
/- rows of the call's own: block g -/
def rowCells (R : Nat → RowD) : Nat → Value := fun k => if k % 2 = 0 then .int .i64 (R (k / 2)).N else .slice (R (k / 2)).A (R (k / 2)).l (R (k / 2)).c
/- what lies there is newer than block g -/
def Off (g : Nat) (A : Option Addr) : Prop := ∀ a, A = some a → g < a.block
theorem Off.ne {g : Nat} {A : Option Addr} (h : Off g A) : ∀ a, A = some a → a.block ≠ g := fun a ha e => by have := h a ha; omega
structure Rows (w : World) (g n : Nat) (R : Nat → RowD) : Prop where
  blk : w.rowIs g 28 (n * 2) (rowCells R)
  wds : ∀ k, k < n → Wds w (R k).A (R k).l (R k).f ∧ Off g (R k).A
def upd (R : Nat → RowD) (i : Nat) (r : RowD) : Nat → RowD := fun k => if k = i then r else R k
theorem Wds.far {w : World} {A : Option Addr} {m : Nat} {f : Nat → Nat} (h : Wds w A m f) {q : Addr} (hq : ∀ a, A = some a → a.block ≠ q.block) (u : Value) : Wds (w.setCell q u) A m f :=
  ⟨h.1, fun hm => by
    obtain ⟨b, off, hA, hlt, hc⟩ := h.2 hm
    have hne : b ≠ q.block := hq _ hA
    refine ⟨b, off, hA, by simpa [World.setCell] using hlt, fun k hk => ?_⟩
    rw [World.cell?_of_block (w := w) (Below.heap_setCell w q u b hne)]
    exact hc k hk⟩
section
variable {w w' : World} {g n : Nat} {R : Nat → RowD}
theorem Rows.lt (h : Rows w g n R) : g < w.heap.size := h.blk.lt
theorem Rows.below (h : Rows w g n R) (hb : Below w.heap.size w w') : Rows w' g n R := ⟨h.blk.of_block (hb.block g h.lt), fun k hk => ⟨(h.wds k hk).1.below hb, (h.wds k hk).2⟩⟩
theorem Rows.c0 (h : Rows w g n R) {k : Nat} (hk : k < n) : w.cell? ⟨g, k * 2, none⟩ = some (.int .i64 (R k).N) := by
  rw [h.blk.cell (i := k * 2) (by omega)]
  unfold rowCells
  rw [if_pos (by omega), show k * 2 / 2 = k by omega]
theorem Rows.c1 (h : Rows w g n R) {k : Nat} (hk : k < n) : w.cell? ⟨g, k * 2 + 1, none⟩ = some (.slice (R k).A (R k).l (R k).c) := by
  rw [h.blk.cell (i := k * 2 + 1) (by omega)]
  unfold rowCells
  rw [if_neg (by omega), show (k * 2 + 1) / 2 = k by omega]
theorem Rows.rel (h : Rows w g n R) : Rel w (some ⟨g, 0, none⟩) n R := fun _ => ⟨g, 0, rfl, h.lt, fun k hk => ⟨by rw [Nat.zero_add]; exact h.c0 hk, by rw [Nat.zero_add]; exact h.c1 hk, (h.wds k hk).1⟩⟩
theorem Rows.set (h : Rows w g n R) (i : Nat) (r : RowD) (hr : Wds w r.A r.l r.f) (ho : Off g r.A) :
    Rows ((w.setCell ⟨g, i * 2, none⟩ (.int .i64 r.N)).setCell ⟨g, i * 2 + 1, none⟩ (.slice r.A r.l r.c)) g n (upd R i r) := by
  refine ⟨(((h.blk.set (i * 2) (.int .i64 r.N)).set (i * 2 + 1) (.slice r.A r.l r.c))).congr (fun k _ => ?_), fun k hk => ?_⟩
  · unfold rowCells upd
    by_cases h1 : k = i * 2 + 1
    · rw [if_pos h1, if_neg (by omega), show k / 2 = i by omega, if_pos rfl]
    · rw [if_neg h1]
      by_cases h2 : k = i * 2
      · rw [if_pos h2, if_pos (by omega), show k / 2 = i by omega, if_pos rfl]
      · rw [if_neg h2]
        by_cases h3 : k % 2 = 0
        · rw [if_pos h3, if_pos h3, if_neg (by omega)]
        · rw [if_neg h3, if_neg h3, if_neg (by omega)]
  · unfold upd
    by_cases h1 : k = i
    · rw [if_pos h1]; exact ⟨(hr.far (q := ⟨g, i * 2, none⟩) ho.ne _).far (q := ⟨g, i * 2 + 1, none⟩) ho.ne _, ho⟩
    · rw [if_neg h1]; exact ⟨((h.wds k hk).1.far (q := ⟨g, i * 2, none⟩) (h.wds k hk).2.ne _).far (q := ⟨g, i * 2 + 1, none⟩) (h.wds k hk).2.ne _, (h.wds k hk).2⟩
theorem Rows.congr {R' : Nat → RowD} (h : Rows w g n R) (e : ∀ k, k < n → R k = R' k) : Rows w g n R' :=
  ⟨h.blk.congr fun k hk => by unfold rowCells; rw [e (k / 2) (by omega)], fun k hk => by rw [← e k hk]; exact h.wds k hk⟩
theorem Rows.far (h : Rows w g n R) {q : Addr} (hq : q.block < g) (u : Value) : Rows (w.setCell q u) g n R :=
  ⟨h.blk.setOther (fun e => by omega) u, fun k hk => ⟨(h.wds k hk).1.far (fun a ha e => by have := (h.wds k hk).2 a ha; omega) u, (h.wds k hk).2⟩⟩
end
def row0 : RowD := ⟨0, none, 0, 0, fun _ => 0⟩
theorem rows_made (w : World) (n : Nat) : Rows (w.alloc (.cells (madeCells #[.int .i64 0, .slice none 0 0] (n * 2)) 28)) w.heap.size n (fun _ => row0) := by
  refine ⟨⟨_, heap_alloc_new w _, size_madeCells _ _, fun i hi => ?_⟩, fun k _ => ⟨⟨fun k hk => absurd hk (Nat.not_lt_zero _), fun h => absurd h (by decide)⟩, fun a ha => by cases ha⟩⟩
  have hm : i % 2 = 0 ∨ i % 2 = 1 := by omega
  unfold rowCells
  rcases hm with h | h
  · rw [if_pos h]; simp [madeCells, hi, h, row0]
  · rw [if_neg (by omega)]; simp [madeCells, hi, h, row0]
theorem Tryd.info28 : (Tryd.prog.info? 28).map (fun i => (i.zero, i.size, i.bytes)) = some (some (.agg #[.int .i64 0, .slice none 0 0]), 2, 32) := by kernel_rfl
theorem Tryd.info78 : (Tryd.prog.info? 78).map (fun i => (i.zero, i.size, i.bytes)) = some (some (.agg #[.int .i64 0, .int .i64 0]), 2, 16) := by kernel_rfl
theorem Tryd.info65 : (Tryd.prog.info? 65).map (fun i => (i.zero, i.size, i.bytes)) = some (some (.slice none 0 0), 1, 24) := by kernel_rfl
theorem Tryd.info25 : (Tryd.prog.info? 25).map (fun i => (i.zero, i.size, i.bytes)) = some (some (.slice none 0 0), 1, 24) := by kernel_rfl
theorem Tryd.info4 : (Tryd.prog.info? 4).map (fun i => (i.zero, i.size, i.bytes)) = some (some (.bool false), 1, 1) := by kernel_rfl
/- make of n rows; of n lists; of n numbers; of n truths -/
theorem make_rows (n : Nat) (h : n ≤ 1000000) : ∀ w : World, (Instr.makeSlice 22 (.int .i64 (n : Int)) (.int .i64 (n : Int))).run Tryd.prog w = .ok (.slice (some ⟨w.heap.size, 0, none⟩) n n) (w.alloc (.cells (madeCells #[.int .i64 0, .slice none 0 0] (n * 2)) 28)) := by
  intro w
  obtain ⟨i, hi, hz, hs, hb⟩ := info_parts Tryd.info28
  have := run_make (P := Tryd.prog) w 22 28 i _ Tryd.underlying22 hi hz .i64 .i64 n n (by omega) (Int.le_refl _) (by rw [hb]; omega) (by omega)
  simp only [Int.toNat_natCast, hs] at this
  exact this
theorem make_lists (n : Nat) (h : n ≤ 1000000) : ∀ w : World, (Instr.makeSlice 29 (.int .i64 (n : Int)) (.int .i64 (n : Int))).run Tryd.prog w = .ok (.slice (some ⟨w.heap.size, 0, none⟩) n n) (w.alloc (.cells (madeCells #[.slice none 0 0] n) 25)) :=
  fun w => run_make_row' (P := Tryd.prog) 29 25 (.slice none 0 0) 24 Tryd.underlying29 Tryd.info25 rfl .i64 .i64 n (by omega) (by omega) w
theorem make_ints (n : Nat) (h : n ≤ 1000000) : ∀ w : World, (Instr.makeSlice 25 (.int .i64 (n : Int)) (.int .i64 (n : Int))).run Tryd.prog w = .ok (.slice (some ⟨w.heap.size, 0, none⟩) n n) (w.alloc (.cells (madeCells #[.int .i64 0] n) 3)) :=
  fun w => run_make_row' (P := Tryd.prog) 25 3 (.int .i64 0) 8 Tryd.underlying25 Tryd.info3 rfl .i64 .i64 n (by omega) (by omega) w
theorem make_bools (n : Nat) (h : n ≤ 1000000) : ∀ w : World, (Instr.makeSlice 65 (.int .i64 (n : Int)) (.int .i64 (n : Int))).run Tryd.prog w = .ok (.slice (some ⟨w.heap.size, 0, none⟩) n n) (w.alloc (.cells (madeCells #[.bool false] n) 4)) :=
  fun w => run_make_row' (P := Tryd.prog) 65 4 (.bool false) 1 Tryd.underlying65 Tryd.info4 rfl .i64 .i64 n (by omega) (by omega) w
/- append of one element to a slice of the call's own; the element lies in block B -/
theorem append_one_at {ops : Array Oper} {rest : List Oper} {o : Oper} {a : Act} {Q : Exit → Act → World → Prop} {w : World} (hgd : o.guard = none) (s x : Operand) (t e : TypeId)
    (ho : o.op = .call { callee := .builtin .append, args := #[s, x], argTypes := #[t, t] }) (size bytes : Nat) (z : Value) (hu : Tryd.prog.underlying t = some (.slice e))
    (hinfo : (Tryd.prog.info? e).map (fun i => (i.zero, i.size, i.bytes)) = some (some z, size, bytes)) (hzs : z.cells.size = size) (hsz : 0 < size) (hby : bytes ≤ 64)
    (base : Nat) (v : Value) (n : Nat) (xs : List Value) (hs : a.eval s = v) (hown : w.ownsRow base e size v n xs) (B : Nat) (cs : Array Value) (hx : a.eval x = .slice (some ⟨B, 0, none⟩) 1 1)
    (hB : w.heap[B]? = some (.cells cs e (0, 0))) (hcs : cs.size = size) (h1 : ∀ u ∈ cs.toList, u.oneCell' = true) (hn : n ≤ 1000000) (hbase : base ≤ w.heap.size)
    (h : ∀ g cap w', w'.ownsRow base e size (.slice (some ⟨g, 0, none⟩) (n + 1) cap) (n + 1) (xs ++ cs.toList) → w.grownBy w' v.ownBlock → (v.ownBlock = some g ∨ g = w.heap.size) → g < w'.heap.size → wpList Tryd.prog ops Q rest (a.put o.dst (.slice (some ⟨g, 0, none⟩) (n + 1) cap)) w') :
    wpList Tryd.prog ops Q (o :: rest) a w := by
  obtain ⟨i, hi, hz, hsz', hb'⟩ := info_parts hinfo
  have hbb : (n + 1) * bytes ≤ 1000001 * 64 := Nat.mul_le_mul (by omega) hby
  refine wpList_append_lies w hgd s x t ho base e i z size bytes hu hi hz hsz' hb' hzs hsz v n xs hs hown ⟨B, 0, none⟩ 1 1 cs.toList hx (by simpa using hcs) ?_ h1 (by decide) (by unfold maxLen; omega) (by omega) hbase w.heap.size rfl h
  intro j u hu'
  have hadd : (⟨B, 0, none⟩ : Addr).add j = ⟨B, j, none⟩ := by unfold Addr.add; split <;> simp_all
  rw [hadd, cell_of_row _ _ j _ _ _ hB]
  simpa using hu'
end Go.Proofs.YtngpfondnampjaaDoor
