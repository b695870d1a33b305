/- The contracts of package bits: change, With, Without. -/
import Derived.Test.YtijghglppgihmaaDoorBitC
import Derived.Test.YtijghglppgihmaaDoorRefE
import Derived.Laws.CopyOwn
namespace Go.Proofs.YtijghglppgihmaaDoor
open Go.RowKit
def orW (x y : Nat) : Nat := x ||| y
def andW (x y : Nat) : Nat := x &&& y
theorem size54 : (Tryd.prog.info? 54).map (·.size) = some 1 := by kernel_rfl
def wvals (f : Nat → Nat) (m : Nat) : List Value := (List.range m).map fun k => .int .u64 (f k : Nat)
/- copy of the words of a set into new ones -/
theorem copy_new {ops : Array Oper} {rest : List Oper} {o : Oper} {a : Act} {Q : Exit → Act → World → Prop} (hgd : o.guard = none) (d s : Operand)
    (ho : o.op = .call { callee := .builtin .copy, args := #[d, s], argTypes := #[22, 22] }) (w : World) (m : Nat) (A : Option Addr) (cap : Nat) (f : Nat → Nat) (hm : 0 < m)
    (hd : a.eval d = .slice (some ⟨w.heap.size, 0, none⟩) m m) (hs : a.eval s = .slice A m cap) (hw : Wds w A m f)
    (h : ∀ w', w'.rowIs w.heap.size 54 m (fun k => .int .u64 (f k : Nat)) → Below w.heap.size w w' → w.heap.size < w'.heap.size → wpList Tryd.prog ops Q rest (a.put o.dst (goInt m)) w') :
    wpList Tryd.prog ops Q (o :: rest) a (w.alloc (.cells (madeCells #[.int .u64 0] m) 54)) := by
  obtain ⟨b, off, rfl, hb, hc⟩ := hw.2 hm
  have hl : (wvals f m).length = m := by simp [wvals]
  have hcur := heap_alloc_new w (.cells (madeCells #[.int .u64 0] m) 54)
  refine wpList_copy_own hgd d s 22 22 ho 54 Tryd.underlying22 size54 w.heap.size 0 m m ⟨b, off, none⟩ m cap hd hs (madeCells #[.int .u64 0] m) 54 hcur (wvals f m) (by rw [hl]; exact (Nat.min_self m).symm) ?_ (by rw [hl, size_madeCells]; omega) ?_ ?_
  · intro j v hv
    have hj : j < m := by
      rcases Nat.lt_or_ge j m with h1 | h1
      · exact h1
      · rw [List.getElem?_eq_none (by omega)] at hv; cases hv
    have hv2 : v = .int .u64 (f j : Nat) := by
      unfold wvals at hv
      rw [List.getElem?_map, List.getElem?_range hj] at hv
      exact (Option.some.inj hv).symm
    have hadd : (⟨b, off, none⟩ : Addr).add j = ⟨b, off + j, none⟩ := by unfold Addr.add; split <;> simp_all
    rw [hadd, hv2, World.cell?_alloc_past _ _ _ hb]
    exact hc j hj
  · intro v hv
    obtain ⟨k, _, rfl⟩ := List.mem_map.1 hv
    rfl
  · rw [hl]
    have hz : ((madeCells #[.int .u64 0] m).toList.take 0 ++ (wvals f m ++ (madeCells #[.int .u64 0] m).toList.drop (0 + m))).toArray = (wvals f m).toArray := by
      have : (madeCells #[Value.int .u64 0] m).toList.drop (0 + m) = [] := List.drop_of_length_le (by rw [Array.length_toList, size_madeCells]; omega)
      rw [this]; simp
    rw [hz]
    refine h _ ⟨(wvals f m).toArray, setRow_heap _ _ _ _ _ _ hcur, by simpa using hl, fun i hi => ?_⟩ (below_setRow ((Below.refl _ _).alloc (Nat.le_refl _) _) (Nat.le_refl _) _) (by simp [World.setRow])
    simp [wvals, hi]
/- the words in which one has been turned -/
def chg (op : Nat → Nat → Nat) (f : Nat → Nat) (i : Nat) : Nat → Nat := fun k => if k = i / 64 then op (f k) (2 ^ (i % 64)) else f k
theorem one_res_set {w wr : World} {N : Int} {A : Option Addr} {la ca g : Nat} (h : OneR w wr N A la ca) (hg : w.heap.size + 2 ≤ g) (k : Nat) (u : Value) : OneR w (wr.setCell ⟨g, k, none⟩ u) N A la ca := by
  refine ⟨h.s.far (by show w.heap.size ≠ g; omega) _, ?_, h.b.setCell (by show w.heap.size ≤ g; omega) _⟩
  obtain ⟨x, y, hb⟩ := h.r
  exact ⟨x, y, (Below.heap_setCell wr ⟨g, k, none⟩ u (w.heap.size + 1) (by show w.heap.size + 1 ≠ g; omega)).trans hb⟩
set_option maxHeartbeats 4000000 in
theorem change58 (N i : Nat) (A : Option Addr) (m ca : Nat) (f : Nat → Nat) (w : World) (ha : Wds w A m f) (hv : Vld N m f) (hi : i < N) :
    Calls Tryd.prog 57 #[.agg #[.int .i64 N, .slice A m ca], .int .i64 i, .func (Fn.func 58) #[] #[]] w (SetOk w N m (chg orW f i)) := by
  have h1 := hv.2.1
  have h2 := hv.2.2.1
  simp only [Int.toNat_natCast] at h2
  have hm9 : m ≤ 9 := by omega
  have hm1 : 0 < m := by omega
  have hmb : i / 64 < m := by omega
  have hi512 : i < 512 := by omega
  have H2 := Lib.hid h2; clear h2
  have hmk := make_words m hm9
  have hf64 := ha.1 (i / 64) hmb
  have HA := Lib.hid ha; clear ha
  have HV := Lib.hid hv; clear hv
  have hp64 := pow_lt (i % 64) (by omega)
  obtain ⟨p, hp⟩ : ∃ p, 2 ^ (i % 64) = p := ⟨_, rfl⟩
  have hbo := fun w => bitOf_any i w hi512
  rw [hp] at hp64
  simp only [hp] at hbo
  have HBO := Lib.hid hbo; clear hbo
  have HP := Lib.hid hp; clear hp
  have hR0 := oneR_new w N A m ca
  go_enter Tryd.func57, Tryd.ntmps57
  go_wp2_with fail
  refine (valid_yes _ _ _ _ _ _ (HA.out.below hR0.b) HV.out).mono ?_; rintro e w2 ⟨rfl, b2⟩
  have hR2 := hR0.next b2
  clear hR0 b2
  have c0 := hR2.s.c0
  have c1 := hR2.s.c1
  go_wp2_with fail
  refine (isIndex_yes _ _ _ (by omega) (by omega)).mono ?_; rintro e w' ⟨rfl, rfl⟩
  have hg2 := hR2.r.lt
  have hg1 := hR2.s.lt
  go_wp2_with (refine copy_new rfl (.tmp 25) (.tmp 27) rfl w2 m A ca f hm1 rfl rfl (HA.out.below hR2.b) ?_)
  intro w3 hrow b3 hlt3
  clear hmk c0 c1
  have hR3 := hR2.next b3
  have c0 := hR3.s.c0
  have c1 := hR3.s.c1
  have x := hrow.cell (i := i / 64) hmb
  have xf := hrow.frozen (i / 64)
  have hrowS := hrow.set (i / 64) (.int .u64 (orW (f (i / 64)) p : Nat))
  have HROW := Lib.hid hrowS; clear hrowS
  generalize hgg : w2.heap.size = g at *
  have HG := Lib.hid hgg; clear hgg
  generalize hyy : f (i / 64) = y at *
  have HY := Lib.hid hyy; clear hyy
  have hcl : ∀ w, Calls Tryd.prog 58 #[.int .u64 (y : Nat), .int .u64 (p : Nat)] w fun e w' => e = .returned (.int .u64 (orW y p : Nat)) ∧ w = w' := fun w => cl58 y p w hf64 hp64
  have HCL := Lib.hid hcl; clear hcl
  have hq0 : (0 : Int) ≤ (i : Int) / 64 := by omega
  have hq1 : (i : Int) / 64 < (m : Int) := by omega
  have hq2 : ((i : Int) / 64).toNat = i / 64 := by omega
  have hgw : w.heap.size + 2 ≤ g := by omega
  have hq3 : IntKind.i64.wrap ((i : Int) / 64) = (i : Int) / 64 := IntWalk.i64_in _ (by omega)
  have hq : (i : Int).tdiv 64 = (i : Int) / 64 := by rw [Int.tdiv_eq_ediv_of_nonneg (by omega)]
  go_wp2_with fail
  go_region_with (first | (go_at_call 51; with_reducible refine (HBO.out _).mono ?_; rintro e w' ⟨rfl, rfl⟩) | (go_at_call 58; with_reducible refine (HCL.out _).mono ?_; rintro e w' ⟨rfl, rfl⟩))
  all_goals
    clear hq hq0 hq1 hq2 hq3 x xf c0 c1
    have hR4 := one_res_set hR3 hgw (i / 64) (.int .u64 (orW y p : Nat))
    have rr := hR4.r.cells
    obtain ⟨r0, r1, f0, f1⟩ := rr
    have c0 := hR4.s.c0
    have hR5 := OneR.stored hR4 (.int .i64 N) (.slice (some ⟨g, 0, none⟩) m m)
    go_wp2_with fail
    clear r0 r1 c0
    obtain ⟨q0, q1⟩ := hR5.r.stored
    refine bodyPost_ret (v := .tuple #[.agg #[.int .i64 N, .slice (some ⟨g, 0, none⟩) m m], .int .i64 0]) (by simp [results, Tryd.results57, go_sem, q0, q1]) rfl ?_
    refine ⟨g, rfl, by omega, ?_, hR5.b.drew⟩
    have hne : g ≠ w.heap.size + 1 := by omega
    refine (((HROW.out).setOther (a := ⟨w.heap.size + 1, 0, none⟩) hne _).setOther (a := ⟨w.heap.size + 1, 1, none⟩) hne _).drew.congr fun k _ => ?_
    unfold chg
    by_cases e : k = i / 64
    · rw [if_pos e, if_pos e, HP.out, e, HY.out]
    · rw [if_neg e, if_neg e]
theorem withB_any (N i : Nat) (A : Option Addr) (m ca : Nat) (f : Nat → Nat) (w : World) (ha : Wds w A m f) (hv : Vld N m f) (hi : i < N) :
    Calls Tryd.prog 24 #[.agg #[.int .i64 N, .slice A m ca], .int .i64 i] w (SetOk w N m (chg orW f i)) := by
  have HA := Lib.hid ha; clear ha
  have HV := Lib.hid hv; clear hv
  have hR0 := oneR_new w N A m ca
  go_enter Tryd.func24, Tryd.ntmps24
  go_wp2_with fail
  refine (change58 N i A m ca f _ (HA.out.below hR0.b) HV.out hi).mono ?_; rintro e w2 ⟨g, rfl, hg, hrow, b2⟩
  have hR2 := hR0.next b2
  have hlt := hR0.r.lt
  obtain ⟨r0, r1, f0, f1⟩ := hR2.r.cells
  have hR3 := OneR.stored hR2 (.int .i64 N) (.slice (some ⟨g, 0, none⟩) m m)
  go_wp2_with fail
  clear r0 r1
  obtain ⟨q0, q1⟩ := hR3.r.stored
  refine bodyPost_ret (v := .tuple #[.agg #[.int .i64 N, .slice (some ⟨g, 0, none⟩) m m], .int .i64 0]) (by simp [results, Tryd.results24, go_sem, q0, q1]) rfl ?_
  have hne : g ≠ w.heap.size + 1 := by omega
  exact ⟨g, rfl, by omega, (hrow.setOther (a := ⟨w.heap.size + 1, 0, none⟩) hne _).setOther (a := ⟨w.heap.size + 1, 1, none⟩) hne _, hR3.b⟩
theorem change_err58 (N i : Int) (A : Option Addr) (m ca : Nat) (f : Nat → Nat) (er : Int) (w : World) (ha : Wds w A m f) (h : (¬ Vld N m f ∧ er = 1) ∨ (Vld N m f ∧ (i < 0 ∨ N ≤ i) ∧ er = 2)) :
    Calls Tryd.prog 57 #[.agg #[.int .i64 N, .slice A m ca], .int .i64 i, .func (Fn.func 58) #[] #[]] w (SetErr w er) := by
  have HA := Lib.hid ha; clear ha
  have hR0 := oneR_new w N A m ca
  rcases h with ⟨hv, rfl⟩ | ⟨hv, hx, rfl⟩
  · have HV := Lib.hid hv; clear hv
    go_enter Tryd.func57, Tryd.ntmps57
    go_wp2_with fail
    refine (valid_no _ _ _ _ _ _ (HA.out.below hR0.b) HV.out).mono ?_; rintro e w2 ⟨rfl, b2⟩
    have hR2 := hR0.next b2
    obtain ⟨r0, r1, f0, f1⟩ := hR2.r.cells
    have hR3 := OneR.stored hR2 (.int .i64 0) (.slice none 0 0)
    go_wp2_with fail
    clear r0 r1
    obtain ⟨q0, q1⟩ := hR3.r.stored
    refine bodyPost_ret (v := .tuple #[.agg #[.int .i64 0, .slice none 0 0], .int .i64 1]) (by simp [results, Tryd.results57, go_sem, q0, q1]) rfl ?_
    exact ⟨rfl, hR3.b⟩
  · have HV := Lib.hid hv; clear hv
    have HX := Lib.hid hx; clear hx
    go_enter Tryd.func57, Tryd.ntmps57
    go_wp2_with fail
    refine (valid_yes _ _ _ _ _ _ (HA.out.below hR0.b) HV.out).mono ?_; rintro e w2 ⟨rfl, b2⟩
    have hR2 := hR0.next b2
    have c0 := hR2.s.c0
    obtain ⟨r0, r1, f0, f1⟩ := hR2.r.cells
    have hR3 := OneR.stored hR2 (.int .i64 0) (.slice none 0 0)
    go_wp2_with fail
    refine (isIndex_no _ _ _ HX.out).mono ?_; rintro e w' ⟨rfl, rfl⟩
    go_wp2_with fail
    clear r0 r1 c0
    obtain ⟨q0, q1⟩ := hR3.r.stored
    refine bodyPost_ret (v := .tuple #[.agg #[.int .i64 0, .slice none 0 0], .int .i64 2]) (by simp [results, Tryd.results57, go_sem, q0, q1]) rfl ?_
    exact ⟨rfl, hR3.b⟩
theorem withB_err (N i : Int) (A : Option Addr) (m ca : Nat) (f : Nat → Nat) (er : Int) (w : World) (ha : Wds w A m f) (h : (¬ Vld N m f ∧ er = 1) ∨ (Vld N m f ∧ (i < 0 ∨ N ≤ i) ∧ er = 2)) :
    Calls Tryd.prog 24 #[.agg #[.int .i64 N, .slice A m ca], .int .i64 i] w (SetErr w er) := by
  have HA := Lib.hid ha; clear ha
  have HH := Lib.hid h; clear h
  have hR0 := oneR_new w N A m ca
  go_enter Tryd.func24, Tryd.ntmps24
  go_wp2_with fail
  refine (change_err58 N i A m ca f er _ (HA.out.below hR0.b) HH.out).mono ?_; rintro e w2 ⟨rfl, b2⟩
  have hR2 := hR0.next b2
  obtain ⟨r0, r1, f0, f1⟩ := hR2.r.cells
  have hR3 := OneR.stored hR2 (.int .i64 0) (.slice none 0 0)
  go_wp2_with fail
  clear r0 r1
  obtain ⟨q0, q1⟩ := hR3.r.stored
  refine bodyPost_ret (v := .tuple #[.agg #[.int .i64 0, .slice none 0 0], .int .i64 er]) (by simp [results, Tryd.results24, go_sem, q0, q1]) rfl ?_
  exact ⟨rfl, hR3.b⟩
set_option maxHeartbeats 4000000 in
theorem change59 (N i : Nat) (A : Option Addr) (m ca : Nat) (f : Nat → Nat) (w : World) (ha : Wds w A m f) (hv : Vld N m f) (hi : i < N) :
    Calls Tryd.prog 57 #[.agg #[.int .i64 N, .slice A m ca], .int .i64 i, .func (Fn.func 59) #[] #[]] w (SetOk w N m (chg andNot f i)) := by
  have h1 := hv.2.1
  have h2 := hv.2.2.1
  simp only [Int.toNat_natCast] at h2
  have hm9 : m ≤ 9 := by omega
  have hm1 : 0 < m := by omega
  have hmb : i / 64 < m := by omega
  have hi512 : i < 512 := by omega
  have H2 := Lib.hid h2; clear h2
  have hmk := make_words m hm9
  have hf64 := ha.1 (i / 64) hmb
  have HA := Lib.hid ha; clear ha
  have HV := Lib.hid hv; clear hv
  have hp64 := pow_lt (i % 64) (by omega)
  obtain ⟨p, hp⟩ : ∃ p, 2 ^ (i % 64) = p := ⟨_, rfl⟩
  have hbo := fun w => bitOf_any i w hi512
  rw [hp] at hp64
  simp only [hp] at hbo
  have HBO := Lib.hid hbo; clear hbo
  have HP := Lib.hid hp; clear hp
  have hR0 := oneR_new w N A m ca
  go_enter Tryd.func57, Tryd.ntmps57
  go_wp2_with fail
  refine (valid_yes _ _ _ _ _ _ (HA.out.below hR0.b) HV.out).mono ?_; rintro e w2 ⟨rfl, b2⟩
  have hR2 := hR0.next b2
  clear hR0 b2
  have c0 := hR2.s.c0
  have c1 := hR2.s.c1
  go_wp2_with fail
  refine (isIndex_yes _ _ _ (by omega) (by omega)).mono ?_; rintro e w' ⟨rfl, rfl⟩
  have hg2 := hR2.r.lt
  have hg1 := hR2.s.lt
  go_wp2_with (refine copy_new rfl (.tmp 25) (.tmp 27) rfl w2 m A ca f hm1 rfl rfl (HA.out.below hR2.b) ?_)
  intro w3 hrow b3 hlt3
  clear hmk c0 c1
  have hR3 := hR2.next b3
  have c0 := hR3.s.c0
  have c1 := hR3.s.c1
  have x := hrow.cell (i := i / 64) hmb
  have xf := hrow.frozen (i / 64)
  have hrowS := hrow.set (i / 64) (.int .u64 (andNot (f (i / 64)) p : Nat))
  have HROW := Lib.hid hrowS; clear hrowS
  generalize hgg : w2.heap.size = g at *
  have HG := Lib.hid hgg; clear hgg
  generalize hyy : f (i / 64) = y at *
  have HY := Lib.hid hyy; clear hyy
  have hcl : ∀ w, Calls Tryd.prog 59 #[.int .u64 (y : Nat), .int .u64 (p : Nat)] w fun e w' => e = .returned (.int .u64 (andNot y p : Nat)) ∧ w = w' := fun w => cl59 y p w hf64 hp64
  have HCL := Lib.hid hcl; clear hcl
  have hq0 : (0 : Int) ≤ (i : Int) / 64 := by omega
  have hq1 : (i : Int) / 64 < (m : Int) := by omega
  have hq2 : ((i : Int) / 64).toNat = i / 64 := by omega
  have hgw : w.heap.size + 2 ≤ g := by omega
  have hq3 : IntKind.i64.wrap ((i : Int) / 64) = (i : Int) / 64 := IntWalk.i64_in _ (by omega)
  have hq : (i : Int).tdiv 64 = (i : Int) / 64 := by rw [Int.tdiv_eq_ediv_of_nonneg (by omega)]
  go_wp2_with fail
  go_region_with (first | (go_at_call 51; with_reducible refine (HBO.out _).mono ?_; rintro e w' ⟨rfl, rfl⟩) | (go_at_call 59; with_reducible refine (HCL.out _).mono ?_; rintro e w' ⟨rfl, rfl⟩))
  all_goals
    clear hq hq0 hq1 hq2 hq3 x xf c0 c1
    have hR4 := one_res_set hR3 hgw (i / 64) (.int .u64 (andNot y p : Nat))
    have rr := hR4.r.cells
    obtain ⟨r0, r1, f0, f1⟩ := rr
    have c0 := hR4.s.c0
    have hR5 := OneR.stored hR4 (.int .i64 N) (.slice (some ⟨g, 0, none⟩) m m)
    go_wp2_with fail
    clear r0 r1 c0
    obtain ⟨q0, q1⟩ := hR5.r.stored
    refine bodyPost_ret (v := .tuple #[.agg #[.int .i64 N, .slice (some ⟨g, 0, none⟩) m m], .int .i64 0]) (by simp [results, Tryd.results57, go_sem, q0, q1]) rfl ?_
    refine ⟨g, rfl, by omega, ?_, hR5.b.drew⟩
    have hne : g ≠ w.heap.size + 1 := by omega
    refine (((HROW.out).setOther (a := ⟨w.heap.size + 1, 0, none⟩) hne _).setOther (a := ⟨w.heap.size + 1, 1, none⟩) hne _).drew.congr fun k _ => ?_
    unfold chg
    by_cases e : k = i / 64
    · rw [if_pos e, if_pos e, HP.out, e, HY.out]
    · rw [if_neg e, if_neg e]
theorem withoutB_any (N i : Nat) (A : Option Addr) (m ca : Nat) (f : Nat → Nat) (w : World) (ha : Wds w A m f) (hv : Vld N m f) (hi : i < N) :
    Calls Tryd.prog 25 #[.agg #[.int .i64 N, .slice A m ca], .int .i64 i] w (SetOk w N m (chg andNot f i)) := by
  have HA := Lib.hid ha; clear ha
  have HV := Lib.hid hv; clear hv
  have hR0 := oneR_new w N A m ca
  go_enter Tryd.func25, Tryd.ntmps25
  go_wp2_with fail
  refine (change59 N i A m ca f _ (HA.out.below hR0.b) HV.out hi).mono ?_; rintro e w2 ⟨g, rfl, hg, hrow, b2⟩
  have hR2 := hR0.next b2
  have hlt := hR0.r.lt
  obtain ⟨r0, r1, f0, f1⟩ := hR2.r.cells
  have hR3 := OneR.stored hR2 (.int .i64 N) (.slice (some ⟨g, 0, none⟩) m m)
  go_wp2_with fail
  clear r0 r1
  obtain ⟨q0, q1⟩ := hR3.r.stored
  refine bodyPost_ret (v := .tuple #[.agg #[.int .i64 N, .slice (some ⟨g, 0, none⟩) m m], .int .i64 0]) (by simp [results, Tryd.results25, go_sem, q0, q1]) rfl ?_
  have hne : g ≠ w.heap.size + 1 := by omega
  exact ⟨g, rfl, by omega, (hrow.setOther (a := ⟨w.heap.size + 1, 0, none⟩) hne _).setOther (a := ⟨w.heap.size + 1, 1, none⟩) hne _, hR3.b⟩
theorem change_err59 (N i : Int) (A : Option Addr) (m ca : Nat) (f : Nat → Nat) (er : Int) (w : World) (ha : Wds w A m f) (h : (¬ Vld N m f ∧ er = 1) ∨ (Vld N m f ∧ (i < 0 ∨ N ≤ i) ∧ er = 2)) :
    Calls Tryd.prog 57 #[.agg #[.int .i64 N, .slice A m ca], .int .i64 i, .func (Fn.func 59) #[] #[]] w (SetErr w er) := by
  have HA := Lib.hid ha; clear ha
  have hR0 := oneR_new w N A m ca
  rcases h with ⟨hv, rfl⟩ | ⟨hv, hx, rfl⟩
  · have HV := Lib.hid hv; clear hv
    go_enter Tryd.func57, Tryd.ntmps57
    go_wp2_with fail
    refine (valid_no _ _ _ _ _ _ (HA.out.below hR0.b) HV.out).mono ?_; rintro e w2 ⟨rfl, b2⟩
    have hR2 := hR0.next b2
    obtain ⟨r0, r1, f0, f1⟩ := hR2.r.cells
    have hR3 := OneR.stored hR2 (.int .i64 0) (.slice none 0 0)
    go_wp2_with fail
    clear r0 r1
    obtain ⟨q0, q1⟩ := hR3.r.stored
    refine bodyPost_ret (v := .tuple #[.agg #[.int .i64 0, .slice none 0 0], .int .i64 1]) (by simp [results, Tryd.results57, go_sem, q0, q1]) rfl ?_
    exact ⟨rfl, hR3.b⟩
  · have HV := Lib.hid hv; clear hv
    have HX := Lib.hid hx; clear hx
    go_enter Tryd.func57, Tryd.ntmps57
    go_wp2_with fail
    refine (valid_yes _ _ _ _ _ _ (HA.out.below hR0.b) HV.out).mono ?_; rintro e w2 ⟨rfl, b2⟩
    have hR2 := hR0.next b2
    have c0 := hR2.s.c0
    obtain ⟨r0, r1, f0, f1⟩ := hR2.r.cells
    have hR3 := OneR.stored hR2 (.int .i64 0) (.slice none 0 0)
    go_wp2_with fail
    refine (isIndex_no _ _ _ HX.out).mono ?_; rintro e w' ⟨rfl, rfl⟩
    go_wp2_with fail
    clear r0 r1 c0
    obtain ⟨q0, q1⟩ := hR3.r.stored
    refine bodyPost_ret (v := .tuple #[.agg #[.int .i64 0, .slice none 0 0], .int .i64 2]) (by simp [results, Tryd.results57, go_sem, q0, q1]) rfl ?_
    exact ⟨rfl, hR3.b⟩
theorem withoutB_err (N i : Int) (A : Option Addr) (m ca : Nat) (f : Nat → Nat) (er : Int) (w : World) (ha : Wds w A m f) (h : (¬ Vld N m f ∧ er = 1) ∨ (Vld N m f ∧ (i < 0 ∨ N ≤ i) ∧ er = 2)) :
    Calls Tryd.prog 25 #[.agg #[.int .i64 N, .slice A m ca], .int .i64 i] w (SetErr w er) := by
  have HA := Lib.hid ha; clear ha
  have HH := Lib.hid h; clear h
  have hR0 := oneR_new w N A m ca
  go_enter Tryd.func25, Tryd.ntmps25
  go_wp2_with fail
  refine (change_err59 N i A m ca f er _ (HA.out.below hR0.b) HH.out).mono ?_; rintro e w2 ⟨rfl, b2⟩
  have hR2 := hR0.next b2
  obtain ⟨r0, r1, f0, f1⟩ := hR2.r.cells
  have hR3 := OneR.stored hR2 (.int .i64 0) (.slice none 0 0)
  go_wp2_with fail
  clear r0 r1
  obtain ⟨q0, q1⟩ := hR3.r.stored
  refine bodyPost_ret (v := .tuple #[.agg #[.int .i64 0, .slice none 0 0], .int .i64 er]) (by simp [results, Tryd.results25, go_sem, q0, q1]) rfl ?_
  exact ⟨rfl, hR3.b⟩
end Go.Proofs.YtijghglppgihmaaDoor
