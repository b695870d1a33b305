/- The contracts of relation.cycleFrom and Cycle. -/
import Derived.Test.YtfjikeejifhnbaaDoorRBfs
import Derived.Deep.LoopGhost
namespace Go.Proofs.YtfjikeejifhnbaaDoor
open Go.RowKit
theorem near_any (j v n c p g l : Nat) (d : Nat → Nat) (w : World) (r : Bool) (hj : j < n) (hb : BoxI w p g n c) (hl : w.cell? ⟨l, 0, none⟩ = some (.int .i64 v)) (hd : w.rowIs g 3 n (nvals d)) (hr : decide (d j = v) = r) :
    Calls Tryd.prog 68 #[.int .i64 j, .pointer (some ⟨p, 0, none⟩), .pointer (some ⟨l, 0, none⟩)] w fun e w' => e = .returned (.bool r) ∧ Below w.heap.size w w' := by
  have c0 := hb.c0
  have z0 := hd.cell hj
  replace z0 : w.cell? ⟨g, j, none⟩ = some (.int .i64 (d j : Nat)) := z0
  have h1 : (((d j : Nat) : Int) == ((v : Nat) : Int)) = r := by
    rw [← hr]
    by_cases e : d j = v
    · rw [decide_eq_true e, e]; simp
    · rw [decide_eq_false e]; exact beq_false_of_ne (by omega)
  generalize d j = x at *
  clear hr hb hd
  have H1 := Lib.hid h1; clear h1
  go_enter Tryd.func68, Tryd.ntmps68
  go_wp2_with fail
  go_quiet (fail)
  go_wp2
  go_ret
  exact ⟨ret_bool H1.out, below_drewN (Below.refl _ _) _⟩
theorem index_near (A : Option Addr) (cL v n c p g l : Nat) (L : List Nat) (d : Nat → Nat) (J : Nat) (base : Nat) (w : World) (hown : w.ownsRow base 3 1 (.slice A L.length cL) L.length (vals L)) (hLn : ∀ x, x ∈ L → x < n) (hb : BoxI w p g n c) (hl : w.cell? ⟨l, 0, none⟩ = some (.int .i64 v)) (hd : w.rowIs g 3 n (nvals d))
    (hJ : J < L.length) (hz : ∀ k, (hk : k < L.length) → k < J → d L[k] ≠ v) (hJv : d L[J] = v) :
    Calls Tryd.prog 67 #[.slice A L.length cL, .func (Fn.func 68) #[] #[.pointer (some ⟨p, 0, none⟩), .pointer (some ⟨l, 0, none⟩)]] w fun e w' => e = .returned (.int .i64 J) ∧ Below w.heap.size w w' := by
  have HZ := Lib.hid hz; clear hz
  have HJ := Lib.hid hJv; clear hJv
  have HL := Lib.hid hLn; clear hLn
  have HO := Lib.hid hown
  have HB := Lib.hid hb
  have HD := Lib.hid hd
  have HC := Lib.hid hl
  have hlt : l < w.heap.size := World.block_lt_of_cell? w _ hl
  have hlen := (own_ints hown).choose_spec.choose_spec.2.2
  clear hl hb hd hown
  go_enter Tryd.func67, Tryd.ntmps67
  go_wp2_with fail
  go_loopw [5, 8] (fun _ i wr => ∃ K : Nat, K ≤ J ∧ i = .int .i64 K ∧ Below w.heap.size w wr) (fun _ i _ => J - (intOf i).toNat)
  case atStart => exact ⟨0, by omega, rfl, Below.refl _ _⟩
  case round =>
    obtain ⟨K, hK, rfl, hB⟩ := hrel
    have hKL : K < L.length := by omega
    obtain ⟨b, rfl, y0⟩ := own_cell (own_below HO.out hB) hKL
    have hn := HL.out _ (List.getElem_mem hKL)
    have hbr := Lib.hid (HB.out.below hB)
    have hdr := Lib.hid (row_below HD.out hB)
    have hcr := Lib.hid ((hB.cell (p := ⟨l, 0, none⟩) hlt).trans HC.out)
    by_cases hKJ : K < J
    · have hz := HZ.out K hKL hKJ
      have hf : Hid (decide (d L[K] = v) = false) := decide_eq_false hz
      clear hz
      generalize L[K] = j at *
      go_wp2_with fail
      refine (near_any j v n c p g l d _ false hn hbr.out hcr.out hdr.out hf.out).mono ?_; rintro e w2 ⟨rfl, b2⟩
      go_wp2_with fail
      go_roundw
      case rel => exact ⟨K + 1, by omega, by go_num, below_next hB b2⟩
      case measure => simp [intOf]; omega
    · obtain rfl : K = J := by omega
      have hf : Hid (decide (d L[K] = v) = true) := decide_eq_true HJ.out
      clear HJ HZ
      generalize L[K] = j at *
      go_wp2_with fail
      refine (near_any j v n c p g l d _ true hn hbr.out hcr.out hdr.out hf.out).mono ?_; rintro e w2 ⟨rfl, b2⟩
      go_wp2_with fail
      go_ret
      exact ⟨rfl, below_next hB b2⟩
/- the first of the numbers to which a leads that is v steps away -/
theorem first_near {T : Nat → Nat → Bool} {n a v : Nat} {d : Nat → Nat} (h : ∃ j, j < n ∧ T a j = true ∧ d j = v) :
    ∃ J, ∃ hJ : J < (rowL T n a).length, (rowL T n a)[J] = nxt T n d a v ∧ (∀ k, (hk : k < (rowL T n a).length) → k < J → d (rowL T n a)[k] ≠ v) ∧ d (rowL T n a)[J] = v := by
  obtain ⟨j, hj, h1, h2⟩ := h
  obtain ⟨n1, n2, n3, n4⟩ := nxt_spec (d := d) hj h1 h2
  have hm : nxt T n d a v ∈ rowL T n a := mem_rowL.2 ⟨n1, n2⟩
  have hf : (rowL T n a).find? (fun x => d x == v) = some (nxt T n d a v) := by
    unfold rowL
    rw [List.find?_filter]
    have : (List.range n).find? (fun x => T a x && d x == v) = some (nxt T n d a v) := find_range_some.2 ⟨n1, by rw [n2, n3]; simp, fun i hi => by
      cases hp : (T a i && d i == v)
      · rfl
      · rw [Bool.and_eq_true, beq_iff_eq] at hp; exact absurd hp (n4 i hi)⟩
    rw [← this]
    congr 1
    funext x
    rw [Bool.eq_iff_iff]; simp
  rw [List.find?_eq_some_iff_getElem] at hf
  obtain ⟨_, J, hJ, he, hno⟩ := hf
  refine ⟨J, hJ, he, fun k hk hkJ => ?_, by rw [he]; exact n3⟩
  have := hno k hkJ
  simpa using this
def ListOk (w : World) (l : List Nat) (e : Ending) (w' : World) : Prop := ∃ v, e = .returned v ∧ w'.ownsRow w.heap.size 3 1 v l.length (vals l) ∧ Below w.heap.size w w'
set_option maxRecDepth 100000 in
set_option maxHeartbeats 8000000 in
theorem cycleFrom_any (A : Option Addr) (n c s : Nat) (R : Nat → RowD) (w : World) (h : Rel w A n R) (hv : VRel n R) (hs : s < n) (hd0 : dist (mat R) n s s ≠ 0) (hT : Tab w) :
    Calls Tryd.prog 55 #[.agg #[.slice A n c], .int .i64 s] w (ListOk w (cycleFrom (mat R) n s)) := by
  have HH := Lib.hid h; clear h
  have hn := hv.1
  have HV := Lib.hid hv; clear hv
  have hdn := (dist_spec hd0).1
  have b0 : Below w.heap.size w (w.alloc (.cells #[.slice A n c] 24)) := (Below.refl _ _).alloc (Nat.le_refl _) _
  have r0 := relAt_new w A n c
  have c0 := r0.c0
  have hpl : Hid (∀ v a, (pathL (mat R) n (dist (mat R) n s) v a).length = v) := fun v a => pathL_len _ _ _ v a
  obtain ⟨d, hd⟩ : ∃ d, dist (mat R) n s = d := ⟨_, rfl⟩
  have HD := Lib.hid hd
  have hst : Hid (∀ w', Rel w' A n R → Tab w' → Calls Tryd.prog 66 #[.agg #[.slice A n c], .int .i64 s] w' (StepsEnd w' n d)) := fun w' h1 h2 => by rw [← HD.out]; exact steps_any A n c s R w' h1 HV.out hs h2
  have hcf : Hid (cycleFrom (mat R) n s = s :: pathL (mat R) n d (d s - 1) s) := by show _ = _; rw [← HD.out]; rfl
  have hstep : Hid (∀ v a, a < n → d a = v + 1 → 1 ≤ v → ∃ j, j < n ∧ mat R a j = true ∧ d j = v) := fun v a _ h1 h2 => by rw [← HD.out] at h1 ⊢; exact dist_step h1 h2
  rw [hd] at hd0 hdn
  rw [hd] at hpl
  clear hd HD
  go_enter Tryd.func55, Tryd.ntmps55
  go_wp2_with fail
  refine (hst.out _ (HH.out.below b0) (hT.below b0)).mono ?_; rintro e w2 ⟨g, rfl, hP, hg, b2⟩
  have B2 := below_next b0 b2
  have r2 := r0.below b2
  have hgs : g < w2.heap.size := hP.lt
  have hwg : w.heap.size + 1 ≤ g := by simpa using hg
  clear b0 r0 c0 b2 hst hg
  have z0 := (hP.alloc (.cells #[.slice (some ⟨g, 0, none⟩) n n] 49)).cell hs
  replace z0 : (w2.alloc (.cells #[.slice (some ⟨g, 0, none⟩) n n] 49)).cell? ⟨g, s, none⟩ = some (.int .i64 (d s : Nat)) := z0
  have z1 := ((hP.alloc (.cells #[.slice (some ⟨g, 0, none⟩) n n] 49)).alloc (.cells #[.int .i64 (s : Int)] 3)).cell hs
  replace z1 : ((w2.alloc (.cells #[.slice (some ⟨g, 0, none⟩) n n] 49)).alloc (.cells #[.int .i64 (s : Int)] 3)).cell? ⟨g, s, none⟩ = some (.int .i64 (d s : Nat)) := z1
  have hw1 : IntKind.i64.wrap (((d s : Nat) : Int) - 1) = ((d s - 1 : Nat) : Int) := by rw [IntKind.wrap_i64]; omega
  go_wp2_with fail
  have hP1 := ((hP.alloc (.cells #[.slice (some ⟨g, 0, none⟩) n n] 49)).alloc (.cells #[.int .i64 (s : Int)] 3)).alloc (.cells #[.int .i64 ((d s - 1 : Nat) : Int)] 3)
  have bB : Below w2.heap.size w2 (((w2.alloc (.cells #[.slice (some ⟨g, 0, none⟩) n n] 49)).alloc (.cells #[.int .i64 (s : Int)] 3)).alloc (.cells #[.int .i64 ((d s - 1 : Nat) : Int)] 3)) := (((Below.refl _ _).alloc (Nat.le_refl _) _).alloc (by simp) _).alloc (by simp; omega) _
  have hb1 : BoxI (((w2.alloc (.cells #[.slice (some ⟨g, 0, none⟩) n n] 49)).alloc (.cells #[.int .i64 (s : Int)] 3)).alloc (.cells #[.int .i64 ((d s - 1 : Nat) : Int)] 3)) w2.heap.size g n n := (Below.heap_alloc _ _ _ (by simp; omega)).trans ((Below.heap_alloc _ _ _ (by simp)).trans (heap_alloc_new w2 _))
  have hown1 := (World.ownsRow_lit (base := w2.heap.size + 1) (e := 3) (size := 1) (w2.alloc (.cells #[.slice (some ⟨g, 0, none⟩) n n] 49)) #[.int .i64 (s : Int)] 1 (by simp) (by decide) rfl).alloc (.cells #[.int .i64 ((d s - 1 : Nat) : Int)] 3)
  have hl1 := heap_new_at2 ((w2.alloc (.cells #[.slice (some ⟨g, 0, none⟩) n n] 49)).alloc (.cells #[.int .i64 (s : Int)] 3)) (.cells #[.int .i64 ((d s - 1 : Nat) : Int)] 3) (w2.heap.size + 2) (by simp)
  have hs1 : (w2.alloc (.cells #[.slice (some ⟨g, 0, none⟩) n n] 49)).heap.size = w2.heap.size + 1 := by simp
  rw [hs1] at hown1
  have r1 := r2.below bB
  have B1 := below_next B2 bB
  have hC1 : Hid ([s] ++ pathL (mat R) n d (d s - 1) s = cycleFrom (mat R) n s) := hcf.out.symm
  have hD1 : Hid (d s = (d s - 1) + 1) := by show _ = _; omega
  have hCFL : Hid ((cycleFrom (mat R) n s).length ≤ n + 1) := by show _ ≤ _; rw [hcf.out, List.length_cons, hpl.out]; omega
  clear z0 z1 hw1 hs1 hP bB r2 B2 hcf
  generalize w2.heap.size = p at *
  go_loopg [6, 7, 8, 9] n (fun gas x y y2 _ wr => ∃ (C : List Nat) (a u l : Nat) (v : Value), v = x ∧ y = .int .i64 a ∧ y2 = .pointer (some ⟨l, 0, none⟩) ∧ u ≤ gas ∧ u ≤ n ∧ a < n ∧ Hid (d a = u + 1) ∧ Hid (C ++ pathL (mat R) n d u a = cycleFrom (mat R) n s) ∧ wr.ownsRow (p + 1) 3 1 v C.length (vals C) ∧ Hid (wr.heap[l]? = some (.cells #[.int .i64 (u : Int)] 3 (0, 0))) ∧ p < l ∧ Hid (v.ownBlock ≠ some l) ∧ BoxI wr p g n n ∧ wr.rowIs g 3 n (nvals d) ∧ RelAt wr w.heap.size A n c ∧ Below w.heap.size w wr)
  case atStart => exact ⟨[s], s, d s - 1, p + 2, _, rfl, rfl, rfl, by omega, by omega, hs, hD1, hC1, by simpa [vals] using hown1, hl1, by omega, by show some (p + 1) ≠ some (p + 2); intro e; injection e with e; omega, hb1, hP1, r1, B1⟩
  case round =>
    clear hC1 hD1 hown1 hl1 hb1 hP1 r1 B1
    obtain ⟨C, a, u, l, v, rfl, rfl, rfl, hug, hun, han, hDa, hC, hown, hl, hpl2, hvl, hb, hP, hr, hB⟩ := hrel
    obtain ⟨Av, cv, rfl, _, _⟩ := own_ints hown
    have l0 : wr.cell? ⟨l, 0, none⟩ = some (.int .i64 (u : Int)) := cell_of_row _ _ 0 _ _ _ hl.out
    by_cases h0 : u = 0
    · subst h0
      have hfin : Hid (C = cycleFrom (mat R) n s) := by
        have := hC.out
        rw [show pathL (mat R) n d 0 a = [] from rfl, List.append_nil] at this
        exact this
      go_wp2_with fail
      go_ret
      exact ⟨_, rfl, by rw [← hfin.out]; exact own_mono hown (by omega), hB⟩
    · have hd1 : decide (0 < (u : Int)) = true := decide_eq_true (by omega)
      have hu1 : 0 < u := by omega
      have c0 := hr.c0
      obtain ⟨b, off, rfl, hbl, hcz⟩ := (HH.out.below hB) (by omega)
      obtain ⟨x0, x1, x2⟩ := hcz a han
      have X2 := Lib.hid x2; clear x2 hcz hbl
      have hrow := members_row n (R a)
      have HRow : Hid (∀ w', Wds w' (R a).A (R a).l (R a).f → Tab w' → Calls Tryd.prog 48 #[.agg #[.int .i64 (R a).N, .slice (R a).A (R a).l (R a).c]] w' (RowOut w' (rowL (mat R) n a))) := fun w' h1 h2 => hrow w' h1 (HV.out.2 a han) h2
      obtain ⟨J, hJ, hJe, hJz, hJv⟩ := first_near (hstep.out u a han hDa.out (by omega))
      have hLn : Hid (∀ x, x ∈ rowL (mat R) n a → x < n) := fun x hx => (mem_rowL.1 hx).1
      have hnx : Hid (nxt (mat R) n d a u < n ∧ d (nxt (mat R) n d a u) = u) := by
        obtain ⟨j, h1, h2, h3⟩ := hstep.out u a han hDa.out (by omega)
        have := nxt_spec (d := d) h1 h2 h3
        exact ⟨this.1, this.2.2.1⟩
      have hpath : Hid (pathL (mat R) n d u a = nxt (mat R) n d a u :: pathL (mat R) n d (u - 1) (nxt (mat R) n d a u)) := by
        obtain ⟨u', rfl⟩ : ∃ u', u = u' + 1 := ⟨u - 1, by omega⟩
        rfl
      have hCl : Hid (C.length ≤ n + 1) := by
        have h1 := congrArg List.length hC.out
        rw [List.length_append, hpl.out] at h1
        have h2 := hCFL.out
        show _ ≤ _
        omega
      have hll := rowL_len (mat R) n a
      clear hrow
      generalize nxt (mat R) n d a u = nx at *
      generalize rowL (mat R) n a = L at *
      have HJz := Lib.hid hJz
      have HJv := Lib.hid hJv
      have HJe := Lib.hid hJe
      clear hJz hJv hJe
      go_wp2_with fail
      refine (HRow.out _ X2.out (hT.below hB)).mono ?_; rintro e w3 ⟨vL, rfl, hownL, b3⟩
      obtain ⟨AL, cL, rfl, _, _⟩ := own_ints hownL
      have hb3 := hb.below b3
      have hP3 := row_below hP b3
      have hr3 := hr.below b3
      have B3 := below_next hB b3
      have hown3 := own_below hown b3
      have hl3 : Hid (w3.heap[l]? = some (.cells #[.int .i64 (u : Int)] 3 (0, 0))) := (b3.block l (lt_of_block hl.out)).trans hl.out
      clear x0 x1 X2 HRow c0 l0 hb hP hr hB hown hl b3
      have l0 : w3.cell? ⟨l, 0, none⟩ = some (.int .i64 (u : Int)) := cell_of_row _ _ 0 _ _ _ hl3.out
      have hidx := index_near AL cL u n n p g l L d J _ w3 hownL hLn.out hb3 l0 hP3 hJ HJz.out HJv.out
      have HIX := Lib.hid hidx
      clear hidx l0
      go_wp2_with fail
      refine HIX.out.mono ?_; rintro e w4 ⟨rfl, b4⟩
      have hownL4 := own_below hownL b4
      obtain ⟨bL, rfl, y0⟩ := own_cell hownL4 hJ
      rw [HJe.out] at y0
      have hb4 := hb3.below b4
      have hP4 := row_below hP3 b4
      have hr4 := hr3.below b4
      have B4 := below_next B3 b4
      have hown4 := own_below hown3 b4
      have hl4 : Hid (w4.heap[l]? = some (.cells #[.int .i64 (u : Int)] 3 (0, 0))) := (b4.block l (lt_of_block hl3.out)).trans hl3.out
      clear hownL hownL4 hb3 hP3 hr3 B3 hown3 hl3 b4 HIX
      have hp4 := hb4.lt
      have hC4 := hCl.out
      go_wp2_with (at_builtin; refine append_nat rfl (.tmp 37) (.tmp 39) rfl (p + 1) (.slice Av C.length cv) C nx nx _ rfl (hown4.alloc _) w4.heap.size rfl (heap_new_at2 _ _ _ rfl) rfl (by omega) (by simp; omega) ?_)
      intro g5 cap w5 hown5 hg5 hat
      have bA : Below w4.heap.size w4 (w4.alloc (.cells #[.int .i64 (nx : Int)] 3)) := (Below.refl _ _).alloc (Nat.le_refl _) _
      have hownA := own_below hown4 bA
      have hnb : ∀ k, k < p + 1 → some k ≠ (Value.slice Av C.length cv).ownBlock := fun k hk e => by have := (hownA.lt k e.symm).1; omega
      have hb5 := (hb4.below bA).grown hg5 (hnb p (by omega))
      have hP5 : w5.rowIs g 3 n (nvals d) := (row_below hP4 bA).of_block (hg5.block g (row_below hP4 bA).lt (hnb g (by omega)))
      have hr5 := relAt_grown (hr4.below bA) hownA (by omega) hg5
      have B5 := grown_below2 (below_next B4 bA) hownA (by omega) hg5
      have hll4 := lt_of_block hl4.out
      have hl5 : Hid (w5.heap[l]? = some (.cells #[.int .i64 (u : Int)] 3 (0, 0))) := (hg5.block l (by simp; omega) (fun e => hvl.out e.symm)).trans ((bA.block l hll4).trans hl4.out)
      have l0 : w5.cell? ⟨l, 0, none⟩ = some (.int .i64 (u : Int)) := cell_of_row _ _ 0 _ _ _ hl5.out
      have hg5l := (hown5.lt g5 rfl).2
      have hp5 := hb5.lt
      have bD : Below w5.heap.size w5 (w5.alloc (.cells #[.int .i64 ((u - 1 : Nat) : Int)] 3)) := (Below.refl _ _).alloc (Nat.le_refl _) _
      have hb6 := hb5.below bD
      have hP6 := row_below hP5 bD
      have hr6 := hr5.below bD
      have B6 := below_next B5 bD
      have hown6 := own_below hown5 bD
      have hl6 : Hid ((w5.alloc (.cells #[.int .i64 ((u - 1 : Nat) : Int)] 3)).heap[w5.heap.size]? = some (.cells #[.int .i64 ((u - 1 : Nat) : Int)] 3 (0, 0))) := heap_alloc_new w5 _
      have hD6 : Hid (d nx = (u - 1) + 1) := by show _ = _; rw [hnx.out.2]; omega
      have hC6 : Hid ((C ++ [nx]) ++ pathL (mat R) n d (u - 1) nx = cycleFrom (mat R) n s) := by show _ = _; rw [List.append_assoc, List.singleton_append, ← hpath.out]; exact hC.out
      have hw : IntKind.i64.wrap ((u : Int) - 1) = ((u - 1 : Nat) : Int) := by rw [IntKind.wrap_i64]; omega
      have hnn := hnx.out.1
      clear bA hownA hnb hb4 hP4 hr4 B4 hown4 hl4 hg5 hat hl5 y0 bD hb5 hP5 hr5 B5 hown5 hll4
      go_wp2_with fail
      go_roundg (u - 1)
      case measure => omega
      case rel => exact ⟨C ++ [nx], nx, u - 1, w5.heap.size, _, rfl, rfl, rfl, by omega, by omega, hnn, hD6, hC6, by rw [List.length_append, List.length_singleton]; exact hown6, hl6, by omega, by show some g5 ≠ some w5.heap.size; intro e; injection e with e; omega, hb6, hP6, hr6, B6⟩
end Go.Proofs.YtfjikeejifhnbaaDoor
