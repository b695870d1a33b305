/- append to a list of the call's own; sets made of lists; the contract of flow.Cut. -/
import Derived.Test.YtjdceafkcakbjaaFMC
namespace Go.Proofs.Ytjdceafkcakbjaa
open Go.RowKit
theorem append_one_at {ops : Array Oper} {rest : List Oper} {o : Oper} {a : Act} {Q : Exit → Act → World → Prop} {w : World} (hgd : o.guard = none) (s x : Operand) (t e : TypeId)
    (ho : o.op = .call { callee := .builtin .append, args := #[s, x], argTypes := #[t, t] }) (size bytes : Nat) (z : Value) (hu : Try.prog.underlying t = some (.slice e))
    (hinfo : (Try.prog.info? e).map (fun i => (i.zero, i.size, i.bytes)) = some (some z, size, bytes)) (hzs : z.cells.size = size) (hsz : 0 < size) (hby : bytes ≤ 64)
    (base : Nat) (v : Value) (n : Nat) (xs : List Value) (hs : a.eval s = v) (hown : w.ownsRow base e size v n xs) (B : Nat) (cs : Array Value) (hx : a.eval x = .slice (some ⟨B, 0, none⟩) 1 1)
    (hB : w.heap[B]? = some (.cells cs e (0, 0))) (hcs : cs.size = size) (h1 : ∀ u ∈ cs.toList, u.oneCell' = true) (hn : n ≤ 1000000) (hbase : base ≤ w.heap.size)
    (h : ∀ g cap w', w'.ownsRow base e size (.slice (some ⟨g, 0, none⟩) (n + 1) cap) (n + 1) (xs ++ cs.toList) → w.grownBy w' v.ownBlock → (v.ownBlock = some g ∨ g = w.heap.size) → g < w'.heap.size → wpList Try.prog ops Q rest (a.put o.dst (.slice (some ⟨g, 0, none⟩) (n + 1) cap)) w') :
    wpList Try.prog ops Q (o :: rest) a w := by
  obtain ⟨i, hi, hz, hsz', hb'⟩ := info_parts hinfo
  have hbb : (n + 1) * bytes ≤ 1000001 * 64 := Nat.mul_le_mul (by omega) hby
  refine wpList_append_lies w hgd s x t ho base e i z size bytes hu hi hz hsz' hb' hzs hsz v n xs hs hown ⟨B, 0, none⟩ 1 1 cs.toList hx (by simpa using hcs) ?_ h1 (by decide) (by unfold maxLen; omega) (by omega) hbase w.heap.size rfl h
  intro j u hu'
  have hadd : (⟨B, 0, none⟩ : Addr).add j = ⟨B, j, none⟩ := by unfold Addr.add; split <;> simp_all
  rw [hadd, cell_of_row _ _ j _ _ _ hB]
  simpa using hu'
theorem append_nat {ops : Array Oper} {rest : List Oper} {o : Oper} {a : Act} {Q : Exit → Act → World → Prop} (hgd : o.guard = none) (s x : Operand)
    (ho : o.op = .call { callee := .builtin .append, args := #[s, x], argTypes := #[25, 25] }) (base : Nat) (v : Value) (l : List Nat) (i : Nat) (I : Int) (w : World) (hs : a.eval s = v)
    (hown : w.ownsRow base 3 1 v l.length (vals l)) (B : Nat) (hx : a.eval x = .slice (some ⟨B, 0, none⟩) 1 1) (hB : w.heap[B]? = some (.cells #[.int .i64 I] 3 (0, 0))) (hI : (i : Int) = I) (hl : l.length ≤ 1000000) (hbase : base ≤ w.heap.size)
    (h : ∀ g cap w', w'.ownsRow base 3 1 (.slice (some ⟨g, 0, none⟩) (l.length + 1) cap) (l.length + 1) (vals (l ++ [i])) → w.grownBy w' v.ownBlock → (v.ownBlock = some g ∨ w.heap.size ≤ g) → wpList Try.prog ops Q rest (a.put o.dst (.slice (some ⟨g, 0, none⟩) (l.length + 1) cap)) w') :
    wpList Try.prog ops Q (o :: rest) a w := by
  subst hI
  refine append_one_at hgd s x 25 3 ho 1 8 _ Try.underlying25 Try.info3 rfl (by decide) (by decide) base v l.length (vals l) hs hown B #[.int .i64 (i : Int)] hx hB rfl ?_ hl hbase (fun g cap w' h1 h2 h3 _ => h g cap w' ?_ h2 ?_)
  · intro u hu
    simp at hu
    subst hu; rfl
  · rw [vals_snoc]; exact h1
  · exact h3.imp id (fun e => by rw [e]; exact Nat.le_refl _)
theorem own_cell {w : World} {base : Nat} {A : Option Addr} {c : Nat} {l : List Nat} (h : w.ownsRow base 3 1 (.slice A l.length c) l.length (vals l)) {k : Nat} (hk : k < l.length) : ∃ b, A = some ⟨b, 0, none⟩ ∧ w.cell? ⟨b, k, none⟩ = some (.int .i64 (l[k] : Nat)) := by
  obtain ⟨g, cap, hv, _, _⟩ := h.form (by omega)
  injection hv with e1 _ e2
  subst e1 e2
  refine ⟨g, rfl, ?_⟩
  have := h.cellAt k (by omega)
  rw [this]
  unfold vals
  rw [List.getElem?_map, List.getElem?_eq_getElem hk]; rfl

/- the set of the numbers of a list -/
def setF (l : List Nat) : Nat → Nat := ow (fun k => (gets l k).toNat) l.length
theorem setF_bt (l : List Nat) (i : Nat) : bt (setF l) i = true ↔ i ∈ l := by
  unfold setF
  rw [bt_ow]
  have hg : ∀ k (hk : k < l.length), (gets l k).toNat = l[k] := fun k hk => by unfold gets; rw [List.getD_eq_getElem?_getD, List.getElem?_eq_getElem hk]; simp
  constructor
  · rintro ⟨k, hk, he⟩
    rw [hg k hk] at he
    rw [← he]; exact List.getElem_mem hk
  · intro hm
    obtain ⟨k, hk⟩ := List.mem_iff_getElem?.1 hm
    obtain ⟨hkl, hke⟩ := List.getElem?_eq_some_iff.1 hk
    exact ⟨k, hkl, by rw [hg k hkl, hke]⟩
theorem setF_vld {n : Nat} {l : List Nat} (hn : n ≤ 512) (h : ∀ x, x ∈ l → x < n) : Vld (n : Int) ((n + 63) / 64) (setF l) := by
  refine ⟨by omega, by omega, by simp, fun i hi _ => ?_⟩
  simp only [Int.toNat_natCast] at hi
  cases hb : bt (setF l) i
  · rfl
  · have := h i ((setF_bt l i).1 hb)
    omega
theorem setF_u64 (l : List Nat) (m : Nat) : U64 (setF l) m := ow_u64 _ _ _
theorem of_list (n : Nat) (v : Value) (base : Nat) (l : List Nat) (w : World) (hn : n ≤ 512) (hown : w.ownsRow base 3 1 v l.length (vals l)) (hl : l.length ≤ 1000000) (h : ∀ x, x ∈ l → x < n) :
    Calls Try.prog 53 #[.int .i64 n, v] w (SetOk w n ((n + 63) / 64) (setF l)) := by
  obtain ⟨A, c, rfl, hI, _⟩ := own_ints hown
  refine (of_any n A l.length c (gets l) l.length true w hn hI hl (Nat.le_refl _) (fun k hk => ?_) (Or.inl ⟨rfl, rfl⟩)).mono fun e w' h => ?_
  · have : gets l k = ((l[k] : Nat) : Int) := by unfold gets; rw [List.getD_eq_getElem?_getD, List.getElem?_eq_getElem hk]; rfl
    have h2 := h _ (List.getElem_mem hk)
    omega
  · rcases h with ⟨_, h⟩ | ⟨h, _⟩
    · exact h
    · cases h
theorem setAt_put {w : World} {p : Nat} {N N' : Int} {A A' : Option Addr} {l c l' c' : Nat} (h : SetAt w p N A l c) : SetAt ((w.setCell ⟨p, 0, none⟩ (.int .i64 N')).setCell ⟨p, 1, none⟩ (.slice A' l' c')) p N' A' l' c' := by
  have h0 := heap_setCell_same w p 0 _ _ (.int .i64 N') h
  have h1 := heap_setCell_same _ p 1 _ _ (.slice A' l' c') h0
  show _ = _
  simpa using h1
/- those that are reached, among the first K -/
def rch (d : Nat → Int) (K : Nat) : List Nat := (List.range K).filter fun v => decide (d v ≠ -1)
theorem rch_yes {d : Nat → Int} {K : Nat} (h : d K ≠ -1) : rch d (K + 1) = rch d K ++ [K] := by
  unfold rch; rw [List.range_succ, List.filter_append]; simp [h]
theorem rch_no {d : Nat → Int} {K : Nat} (h : d K = -1) : rch d (K + 1) = rch d K := by
  unfold rch; rw [List.range_succ, List.filter_append]; simp [h]
theorem rch_len (d : Nat → Int) (K : Nat) : (rch d K).length ≤ K := by
  unfold rch
  have := List.length_filter_le (fun v => decide (d v ≠ -1)) (List.range K)
  simpa using this
theorem rch_mem {d : Nat → Int} {K v : Nat} : v ∈ rch d K ↔ v < K ∧ d v ≠ -1 := by unfold rch; simp
def CutOk (w : World) (n : Nat) (N : Net) (s t : Nat) (e : Ending) (w' : World) : Prop :=
  ∃ g l R, e = .returned (.tuple #[.agg #[.int .i64 n, .slice (some ⟨g, 0, none⟩) ((n + 63) / 64) ((n + 63) / 64)], .int .i64 (N.capS (bt (setF l))), .int .i64 0]) ∧ w'.rowIs g 61 ((n + 63) / 64) (fun k => .int .u64 (setF l k : Nat)) ∧
    N.Done s t R ∧ (∀ v, v ∈ l ↔ v < n ∧ N.Reach R s v) ∧ w.heap.size ≤ g ∧ Below w.heap.size w w'
theorem cut_err (N s t er : Int) (A : Option Addr) (m c : Nat) (E : Nat → EdgeD) (w : World) (h : Edges w A m E) (hx : (¬ VNet N m E ∧ er = 1) ∨ (VNet N m E ∧ ¬ Pair N s t ∧ er = 2)) :
    Calls Try.prog 21 #[.agg #[.int .i64 N, .slice A m c], .int .i64 s, .int .i64 t] w fun e w' => e = .returned (.tuple #[.agg #[.int .i64 0, .slice none 0 0], .int .i64 0, .int .i64 er]) ∧ Below w.heap.size w w' := by
  have b0 := (below_new w (.cells #[.int .i64 N, .slice A m c] 24)).alloc (below_new w _).size (.cells #[.int .i64 0, .slice none 0 0] 28)
  have n0 := (netAt_new w N A m c).alloc (.cells #[.int .i64 0, .slice none 0 0] 28)
  have s0 := setAt_new (w.alloc (.cells #[.int .i64 N, .slice A m c] 24)) 0 none 0 0
  rw [show (w.alloc (.cells #[.int .i64 N, .slice A m c] 24)).heap.size = w.heap.size + 1 by simp] at s0
  have c0 := n0.c0
  have c1 := n0.c1
  have hE : Hid (∀ u, Below w.heap.size w u → Calls Try.prog 39 #[.agg #[.int .i64 N, .slice A m c], .int .i64 s, .int .i64 t] u fun e w' => e = .returned (.int .i64 er) ∧ Below u.heap.size u w') := fun u hu => by
    rcases hx with ⟨h1, rfl⟩ | ⟨h1, h2, rfl⟩
    · exact argErr_arg N s t A m c E u (h.below hu) h1
    · exact argErr_range N s t A m c E u (h.below hu) h1 h2
  have her : er = 1 ∨ er = 2 := by rcases hx with ⟨_, h⟩ | ⟨_, _, h⟩ <;> omega
  clear hx h
  have q : (er != 0) = true := bne_iff_ne.2 (by omega)
  go_enter Try.func21, Try.ntmps21
  go_wp2_with fail
  refine (hE.out _ b0).mono ?_; rintro e w1 ⟨rfl, b1⟩
  have s1 := s0.below b1
  have r0 := s1.c0
  have r1 := s1.c1
  have f0 := s1.free 0
  have f1 := s1.free 1
  have B1 := below_next b0 b1
  go_wp2_with fail
  have s2 := setAt_put (N' := 0) (A' := none) (l' := 0) (c' := 0) s1
  have r0' := s2.c0
  have r1' := s2.c1
  refine bodyPost_ret (v := .tuple #[.agg #[.int .i64 0, .slice none 0 0], .int .i64 0, .int .i64 er]) (by simp [results, Try.results21, go_sem, r0', r1']) rfl ?_
  exact ⟨rfl, (B1.setCell (by show w.heap.size ≤ w.heap.size + 1; omega) _).setCell (by show w.heap.size ≤ w.heap.size + 1; omega) _⟩
end Go.Proofs.Ytjdceafkcakbjaa
