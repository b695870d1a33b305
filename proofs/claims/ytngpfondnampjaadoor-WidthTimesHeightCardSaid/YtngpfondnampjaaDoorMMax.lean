/- Matching, ported: MMax. -/
import Derived.Test.YtngpfondnampjaaDoorMUnm
import Derived.Deep.RegionWith
namespace Go.Proofs.YtngpfondnampjaaDoor
open Go.RowKit
/- mathematics -/
def maxS (nb : Nat → List Nat) (m : Nat) : Nat → Gr
  | 0 => ⟨fun _ => false, fun _ => -1, fun _ => -1⟩
  | a + 1 => ⟨fun _ => false, (vis nb (m + 1) a (maxS nb m a)).2.L, (vis nb (m + 1) a (maxS nb m a)).2.R⟩
theorem maxS_seen (nb : Nat → List Nat) (m : Nat) : ∀ a, (maxS nb m a).seen = fun _ => false
  | 0 => rfl
  | _ + 1 => rfl
theorem un_none : ∀ m, un (fun _ => false) m = m
  | 0 => rfl
  | m + 1 => by show un _ m + _ = _; rw [un_none m]; rfl
theorem mat_eq {n m : Nat} {nb : Nat → List Nat} {g g' : Gr} (h : Mat n m nb g) (e1 : g'.L = g.L) (e2 : g'.R = g.R) : Mat n m nb g' := ⟨by rw [e1, e2]; exact h.l, by rw [e2]; exact h.w, by rw [e1, e2]; exact Par.r h⟩
structure MaxI (n m : Nat) (nb : Nat → List Nat) (a : Nat) : Prop where
  mat : Mat n m nb (maxS nb m a)
  free : ∀ b, a ≤ b → (maxS nb m a).L b = -1
theorem maxI {n m : Nat} {nb : Nat → List Nat} (hnb : ∀ a b, b ∈ nb a → b < m) : ∀ a, a ≤ n → MaxI n m nb a
  | 0, _ => ⟨⟨fun _ _ => .inl rfl, fun _ _ => .inl rfl, fun _ _ _ => .inl rfl⟩, fun _ _ => rfl⟩
  | a + 1, ha => by
    have ih := maxI (n := n) hnb a (by omega)
    have hres := vis_res (n := n) hnb (m + 1) a (maxS nb m a) ih.mat (by omega) (.inl (ih.free a (Nat.le_refl _))) (by rw [maxS_seen, un_none]; omega)
    cases hr : (vis nb (m + 1) a (maxS nb m a)).1 with
    | false =>
      have fl := hres.no hr
      exact ⟨mat_eq ih.mat fl.eL fl.eR, fun b hb => (congrFun fl.eL b).trans (ih.free b (by omega))⟩
    | true =>
      have dn := hres.yes hr
      refine ⟨mat_eq (g := (vis nb (m + 1) a (maxS nb m a)).2) ?_ rfl rfl, fun b hb => ?_⟩
      · have := dn.par; rw [ih.free a (Nat.le_refl _)] at this; exact this
      · show (vis nb (m + 1) a (maxS nb m a)).2.L b = -1
        by_cases e : (vis nb (m + 1) a (maxS nb m a)).2.L b = -1
        · exact e
        · rcases (dn.ml b).1 e with h1 | h1
          · exact absurd (ih.free b (by omega)) h1
          · omega
/- memory -/
theorem own_keep {w w' : World} {base : Nat} {e : TypeId} {size : Nat} {v : Value} {n : Nat} {xs : List Value} (h : w.ownsRow base e size v n xs) (hk : ∀ g, v.ownBlock = some g → w'.heap[g]? = w.heap[g]?) : w'.ownsRow base e size v n xs := by
  refine ⟨h.1, ?_⟩
  rcases h.2 with h1 | ⟨g, cap, cur, hv, hb, hg, hr⟩
  · exact .inl h1
  · exact .inr ⟨g, cap, cur, hv, hb, (hk g (by rw [hv]; rfl)).trans hg, hr⟩
structure GA (lim base : Nat) (w : World) (n m gN gL gR : Nat) (nb : Nat → List Nat) (V : Nat → Value) (L R : Nat → Int) : Prop where
  tab : TabN w base gN n nb V
  l : w.rowIs gL 3 n (ivals L)
  r : w.rowIs gR 3 m (ivals R)
  lo : lim ≤ gN ∧ lim ≤ gL ∧ lim ≤ gR
  hi : gN < base ∧ gL < base ∧ gR < base
  ne : gN ≠ gL ∧ gN ≠ gR ∧ gL ≠ gR
def adOf (V : Nat → Value) (a : Nat) : Option Addr := match V a with | .slice A _ _ => A | _ => none
def cpOf (V : Nat → Value) (a : Nat) : Nat := match V a with | .slice _ _ c => c | _ => 0
section
variable {lim base : Nat} {w w' : World} {n m gN gL gR gS : Nat} {nb : Nat → List Nat} {V : Nat → Value} {L R : Nat → Int}
theorem TabN.form (h : TabN w base gN n nb V) {a : Nat} (ha : a < n) : V a = .slice (adOf V a) (nb a).length (cpOf V a) := by
  rcases (h.own a ha).2 with ⟨h1, h2⟩ | ⟨g, cap, cur, hv, _⟩
  · unfold adOf cpOf; rw [h1, h2]
  · unfold adOf cpOf; rw [hv]
theorem TabN.nbAt (h : TabN w base gN n nb V) {X : Nat → Prop} (hN : X gN) (hX : ∀ b, base ≤ b → b < w.heap.size → X b) : NbAt w X gN n nb (adOf V) (cpOf V) := by
  refine ⟨h.rows.congr fun a ha => h.form ha, hN, fun a ha h0 => ?_⟩
  obtain ⟨g, cap, hv, hb, hlt⟩ := (h.own a ha).form h0
  refine ⟨g, 0, ?_, hX g hb hlt, hlt, fun k hk => ?_⟩
  · unfold adOf; rw [hv]
  · have ho := h.own a ha
    rw [hv] at ho
    have e : (vals (nb a))[k]? = some (.int .i64 (((nb a).getD k 0 : Nat) : Int)) := by
      unfold vals
      rw [List.getElem?_map, List.getD_eq_getElem?_getD, List.getElem?_eq_getElem hk]; rfl
    rw [Nat.zero_add]
    exact (ho.cellAt k (by omega)).trans e
theorem TabN.keep (h : TabN w base gN n nb V) (hN : w'.heap[gN]? = w.heap[gN]?) (hk : ∀ b, base ≤ b → b < w.heap.size → w'.heap[b]? = w.heap[b]?) : TabN w' base gN n nb V :=
  ⟨h.rows.of_block hN, fun a ha => own_keep (h.own a ha) fun g e => hk g ((h.own a ha).lt g e).1 ((h.own a ha).lt g e).2, h.apart, h.lt⟩
theorem GA.below (h : GA lim base w n m gN gL gR nb V L R) (hb : Below w.heap.size w w') : GA lim base w' n m gN gL gR nb V L R := ⟨h.tab.below hb, row_below h.l hb, row_below h.r hb, h.lo, h.hi, h.ne⟩
theorem GA.outS (h : GA lim base w n m gN gL gR nb V L R) : Out gL gR w.heap.size gN := ⟨h.ne.1, h.ne.2.1, by have := h.tab.rows.lt; omega⟩
theorem GA.nbAt (h : GA lim base w n m gN gL gR nb V L R) : NbAt w (Out gL gR w.heap.size) gN n nb (adOf V) (cpOf V) :=
  h.tab.nbAt h.outS fun b h1 h2 => ⟨by have := h.hi; omega, by have := h.hi; omega, by omega⟩
end
theorem make_bools5 (n : Nat) (h : n ≤ 1000000) : ∀ w : World, (Instr.makeSlice 65 (.int .i64 (n : Int)) (.int .i64 (n : Int))).run Tryd.prog w = .ok (.slice (some ⟨w.heap.size, 0, none⟩) n n) (w.alloc (.cells (madeCells #[.bool false] n) 4)) :=
  fun w => run_make_row' (P := Tryd.prog) 65 4 (.bool false) 1 Tryd.underlying65 Tryd.info4 rfl .i64 .i64 n (by omega) (by omega) w
/- improve, called with a new row of truths -/
def ImpEnd (wr : World) (lim base n m gN gL gR : Nat) (nb : Nat → List Nat) (V : Nat → Value) (out : Bool × Gr) (e : Ending) (w' : World) : Prop :=
  e = .returned (.bool out.1) ∧ GA lim base w' n m gN gL gR nb V out.2.L out.2.R ∧ Below lim wr w' ∧ ∀ b, b < wr.heap.size → b ≠ gL → b ≠ gR → w'.heap[b]? = wr.heap[b]?
theorem improve_new (lim base n m gN gL gR : Nat) (nb : Nat → List Nat) (V : Nat → Value) (g : Gr) (a : Nat) (wr : World) (h : GA lim base wr n m gN gL gR nb V g.L g.R) (hlen : ∀ a, (nb a).length ≤ 2000) (hnb : ∀ a b, b ∈ nb a → b < m)
    (hM : Mat n m nb g) (hs : g.seen = fun _ => false) (ha : a < n) (hat : g.L a = -1) :
    ∀ u, u = (wr.alloc (.cells (madeCells #[.bool false] m) 4)) ∨ u = (wr.alloc (.cells (madeCells #[.bool false] m) 4)).drew →
    Calls Tryd.prog 96 #[.agg #[.slice (some ⟨gN, 0, none⟩) n n, .slice (some ⟨gL, 0, none⟩) n n, .slice (some ⟨gR, 0, none⟩) m m], .int .i64 a, .slice (some ⟨wr.heap.size, 0, none⟩) m m] u (ImpEnd wr lim base n m gN gL gR nb V (vis nb (m + 1) a g)) := by
  intro u hu
  have bu : Below wr.heap.size wr u := by
    rcases hu with rfl | rfl
    · exact below_new _ _
    · exact (below_new _ _).drew
  have eS : u.heap[wr.heap.size]? = some (.cells (madeCells #[.bool false] m) 4) := by
    rcases hu with rfl | rfl
    · exact heap_alloc_new _ _
    · exact heap_alloc_new wr _
  have hU := h.below bu
  have hN := h.nbAt.keep bu.size (fun b hb _ => bu.block b hb)
  have hl := h.l.lt
  have hr := h.r.lt
  have hSt : StAt u n m gL gR wr.heap.size g := ⟨hU.l, hU.r, by have := row_of_made eS; unfold bvals; rw [hs]; exact this⟩
  have hlo := h.lo
  refine (improve_any lim n m gN gL gR wr.heap.size nb (adOf V) (cpOf V) hnb hlen hlo.2.1 hlo.2.2 (by omega) (m + 1) a g u hN hSt h.ne.2.2 (by omega) (by omega) hM ha (.inl hat) (by rw [hs, un_none]; omega)).mono ?_
  rintro e w' ⟨rfl, S2, b2, k2⟩
  have far : ∀ b, b < wr.heap.size → b ≠ gL → b ≠ gR → w'.heap[b]? = wr.heap[b]? := fun b hb h1 h2 => (k2.2 b (Nat.lt_of_lt_of_le hb bu.size) ⟨h1, h2, by omega⟩).trans (bu.block b hb)
  have hhi := h.hi
  exact ⟨rfl, ⟨h.tab.keep (far gN h.tab.rows.lt h.ne.1 h.ne.2.1) (fun b h1 h2 => far b h2 (by omega) (by omega)), S2.l, S2.r, h.lo, h.hi, h.ne⟩, (bu.mono (by omega)).trans b2, far⟩
theorem GA.put {q base : Nat} {w : World} {n m gN gL gR : Nat} {nb : Nat → List Nat} {V : Nat → Value} {L R : Nat → Int} (h : GA (q + 1) base w n m gN gL gR nb V L R) (x0 x1 x2 : Value) :
    GA (q + 1) base (((w.setCell ⟨q, 0, none⟩ x0).setCell ⟨q, 1, none⟩ x1).setCell ⟨q, 2, none⟩ x2) n m gN gL gR nb V L R := by
  have hlo := h.lo
  have hhi := h.hi
  have far : ∀ b, b ≠ q → (((w.setCell ⟨q, 0, none⟩ x0).setCell ⟨q, 1, none⟩ x1).setCell ⟨q, 2, none⟩ x2).heap[b]? = w.heap[b]? := fun b hb => by
    rw [Below.heap_setCell _ _ _ _ (by exact hb), Below.heap_setCell _ _ _ _ (by exact hb), Below.heap_setCell _ _ _ _ (by exact hb)]
  exact ⟨h.tab.keep (far gN (by omega)) (fun b h1 _ => far b (by omega)), h.l.of_block (far gL (by omega)), h.r.of_block (far gR (by omega)), h.lo, h.hi, h.ne⟩
def MaxEnd (w : World) (n m : Nat) (nb : Nat → List Nat) (e : Ending) (w' : World) : Prop :=
  ∃ gN gL gR V, e = .returned (.agg #[.slice (some ⟨gN, 0, none⟩) n n, .slice (some ⟨gL, 0, none⟩) n n, .slice (some ⟨gR, 0, none⟩) m m]) ∧ GA (w.heap.size + 1) (w.heap.size + 6) w' n m gN gL gR nb V (maxS nb m n).L (maxS nb m n).R ∧ Below w.heap.size w w'
theorem nbs_mem {N M : Int} {k : Nat} {E : Nat → Int × Int} (h : VG N M k E) : ∀ K, K ≤ k → ∀ a b, b ∈ nbs E K a → (b : Int) < M
  | 0, _, a, b, hb => by cases hb
  | K + 1, hK, a, b, hb => by
    have ih := nbs_mem h K (by omega)
    obtain ⟨⟨h1, h2⟩, h3, h4⟩ := h.ran K hK
    have e : nbs E (K + 1) = setL (nbs E K) (E K).1.toNat (nbs E K (E K).1.toNat ++ [(E K).2.toNat]) := if_pos h1
    rw [e] at hb
    unfold setL at hb
    split at hb
    · rcases List.mem_append.1 hb with hb | hb
      · exact ih _ b hb
      · have : b = (E K).2.toNat := by simpa using hb
        omega
    · exact ih a b hb
set_option maxRecDepth 100000 in
set_option maxHeartbeats 4000000 in
theorem maximum_any (n m k c : Nat) (A : Option Addr) (E : Nat → Int × Int) (w : World) (h : Prs w A k E) (hv : VG n m k E) : Calls Tryd.prog 78 #[.int .i64 n, .int .i64 m, .slice A k c] w (MaxEnd w n m (nbs E k)) := by
  have hn := hv.n1
  have hm := hv.m1
  have hk := hv.k2
  have hnb : ∀ a b, b ∈ nbs E k a → b < m := fun a b hb => by have := nbs_mem hv k (Nat.le_refl _) a b hb; omega
  have hlen : ∀ a, (nbs E k a).length ≤ 2000 := fun a => Nat.le_trans (nbs_len E k a) hk
  have mk := make_bools5 m (by omega)
  obtain ⟨w1, hw1⟩ : ∃ w1, w1 = w.alloc (.cells #[.slice none 0 0, .slice none 0 0, .slice none 0 0] 100) := ⟨_, rfl⟩
  have hs1 : w1.heap.size = w.heap.size + 1 := by rw [hw1]; simp
  have b1 : Below w.heap.size w w1 := by rw [hw1]; exact below_new _ _
  have e1 : w1.heap[w.heap.size]? = some (.cells #[.slice none 0 0, .slice none 0 0, .slice none 0 0] 100 (0, 0)) := by rw [hw1]; exact heap_alloc_new _ _
  have HU := Lib.hid (unmatched_any n m k c A E w1 (h.below b1) hv)
  have HW := Lib.hid hw1
  have HV := Lib.hid hv
  have HNB := Lib.hid hnb
  have HLEN := Lib.hid hlen
  clear h hv hw1 hnb hlen hk
  go_enter Tryd.func78, Tryd.ntmps78
  go_upto_region 1 with fail
  rw [← HW.out]
  clear HW
  go_wp2_with fail
  refine HU.out.mono ?_; rintro e w2 ⟨gN, gL, gR, V, rfl, hG⟩
  have hGA : GA (w.heap.size + 1) (w.heap.size + 6) w2 n m gN gL gR (nbs E k) V (maxS (nbs E k) m 0).L (maxS (nbs E k) m 0).R := by
    have t := hG.tab
    rw [hs1] at t
    have hlo := hG.lo
    have hhi := hG.hi
    exact ⟨t, hG.l, hG.r, by omega, by omega, hG.ne⟩
  have B2 : Below w.heap.size w w2 := b1.trans (hG.bl.mono (by omega))
  have r2 : w2.heap[w.heap.size]? = some (.cells #[.slice none 0 0, .slice none 0 0, .slice none 0 0] 100 (0, 0)) := (hG.bl.block _ (by omega)).trans e1
  obtain ⟨o7, ho7⟩ : ∃ o, o = Obj.cells #[.slice (some ⟨gN, 0, none⟩) n n, .slice (some ⟨gL, 0, none⟩) n n, .slice (some ⟨gR, 0, none⟩) m m] 100 := ⟨_, rfl⟩
  have e7 : (w2.alloc o7).heap[w2.heap.size]? = some o7 := heap_alloc_new _ _
  have hGB := hGA.below (below_new w2 o7)
  have B3 := B2.trans ((below_new w2 o7).mono B2.size)
  have r3 := ((below_new w2 o7).block _ (lt_of_block r2)).trans r2
  have n7 : w2.heap.size ≠ gL ∧ w2.heap.size ≠ gR := ⟨by have := hGA.l.lt; omega, by have := hGA.r.lt; omega⟩
  obtain ⟨p7, hp7⟩ : ∃ p7, p7 = w2.heap.size := ⟨_, rfl⟩
  have hp7w : w.heap.size < p7 := by rw [hp7]; exact lt_of_block r2
  rw [ho7] at e7 hGB B3 r3
  clear hG hGA B2 r2 ho7 e1 b1 HU
  go_upto_region 2 with fail
  rw [← hp7] at e7 n7 ⊢
  generalize w2.alloc (.cells #[.slice (some ⟨gN, 0, none⟩) n n, .slice (some ⟨gL, 0, none⟩) n n, .slice (some ⟨gR, 0, none⟩) m m] 100) = w3 at *
  clear hp7
  go_wp2_with fail
  go_loopw [14] (fun i wr => ∃ K : Nat, K ≤ n ∧ i = .int .i64 K ∧ GA (w.heap.size + 1) (w.heap.size + 6) wr n m gN gL gR (nbs E k) V (maxS (nbs E k) m K).L (maxS (nbs E k) m K).R ∧
      wr.heap[p7]? = some (.cells #[.slice (some ⟨gN, 0, none⟩) n n, .slice (some ⟨gL, 0, none⟩) n n, .slice (some ⟨gR, 0, none⟩) m m] 100 (0, 0)) ∧
      wr.heap[w.heap.size]? = some (.cells #[.slice none 0 0, .slice none 0 0, .slice none 0 0] 100 (0, 0)) ∧ Below w.heap.size w wr) (fun i _ => n - (intOf i).toNat)
  case atStart => exact ⟨0, Nat.zero_le _, rfl, hGB, e7, r3, B3⟩
  case round =>
    clear hGB e7 r3 B3
    obtain ⟨K, hK, rfl, hG, e7, r3, hB⟩ := hrel
    have k0 : wr.cell? ⟨p7, 0, none⟩ = some (.slice (some ⟨gN, 0, none⟩) n n) := cell_of_row _ _ 0 _ _ _ e7
    have k1 : wr.cell? ⟨p7, 1, none⟩ = some (.slice (some ⟨gL, 0, none⟩) n n) := cell_of_row _ _ 1 _ _ _ e7
    have k2 : wr.cell? ⟨p7, 2, none⟩ = some (.slice (some ⟨gR, 0, none⟩) m m) := cell_of_row _ _ 2 _ _ _ e7
    by_cases hlt : K < n
    · have hI := maxI (n := n) HNB.out K hK
      have HC := Lib.hid (improve_new (w.heap.size + 1) (w.heap.size + 6) n m gN gL gR (nbs E k) V (maxS (nbs E k) m K) K wr hG HLEN.out HNB.out hI.mat (maxS_seen _ _ K) hlt (hI.free K (Nat.le_refl _)))
      have HE7 := Lib.hid e7
      have HR3 := Lib.hid r3
      have hpl := lt_of_block e7
      have hrl := lt_of_block r3
      have hrN : Hid (w.heap.size ≠ gL ∧ w.heap.size ≠ gR) := Lib.hid ⟨by have := hG.lo; omega, by have := hG.lo; omega⟩
      have hwrap : IntKind.i64.wrap ((K : Int) + 1) = (K : Int) + 1 := IntWalk.i64_in _ (by omega)
      clear hI hG e7 r3
      go_upto_region 5 with fail
      go_region_with (go_at_call 96; (with_reducible refine (HC.out _ (by first | exact Or.inl rfl | exact Or.inr rfl)).mono ?_); rintro e w4 ⟨rfl, hG4, b4, far4⟩)
      all_goals
        clear k0 k1 k2
        go_wp2_with fail
        go_roundw
        case rel => exact ⟨K + 1, hlt, by go_num, hG4, (far4 p7 hpl n7.1 n7.2).trans HE7.out, (far4 _ hrl hrN.out.1 hrN.out.2).trans HR3.out, hB.trans (b4.mono (Nat.le_succ _))⟩
        case measure => simp [intOf]; omega
    · obtain rfl : K = n := by omega
      have q0 : wr.cell? ⟨w.heap.size, 0, none⟩ = some (.slice none 0 0) := cell_of_row _ _ 0 _ _ _ r3
      have q1 : wr.cell? ⟨w.heap.size, 1, none⟩ = some (.slice none 0 0) := cell_of_row _ _ 1 _ _ _ r3
      have q2 : wr.cell? ⟨w.heap.size, 2, none⟩ = some (.slice none 0 0) := cell_of_row _ _ 2 _ _ _ r3
      have z0 := frozen_of_row _ _ 0 _ _ r3
      have z1 := frozen_of_row _ _ 1 _ _ r3
      have z2 := frozen_of_row _ _ 2 _ _ r3
      have HG := Lib.hid hG
      have HR3 := Lib.hid r3
      clear hG r3 e7
      go_wp2_with fail
      have hres := put3 (.slice (some ⟨gN, 0, none⟩) K K) (.slice (some ⟨gL, 0, none⟩) K K) (.slice (some ⟨gR, 0, none⟩) m m) HR3.out
      have hout := HG.out.put (.slice (some ⟨gN, 0, none⟩) K K) (.slice (some ⟨gL, 0, none⟩) K K) (.slice (some ⟨gR, 0, none⟩) m m)
      have hBf : Below w.heap.size w (((wr.setCell ⟨w.heap.size, 0, none⟩ (.slice (some ⟨gN, 0, none⟩) K K)).setCell ⟨w.heap.size, 1, none⟩ (.slice (some ⟨gL, 0, none⟩) K K)).setCell ⟨w.heap.size, 2, none⟩ (.slice (some ⟨gR, 0, none⟩) m m)) :=
        ((hB.setCell (by exact Nat.le_refl _) _).setCell (by exact Nat.le_refl _) _).setCell (by exact Nat.le_refl _) _
      generalize ((wr.setCell ⟨w.heap.size, 0, none⟩ (.slice (some ⟨gN, 0, none⟩) K K)).setCell ⟨w.heap.size, 1, none⟩ (.slice (some ⟨gL, 0, none⟩) K K)).setCell ⟨w.heap.size, 2, none⟩ (.slice (some ⟨gR, 0, none⟩) m m) = W9 at *
      have j0 := cell_of_row _ _ 0 _ _ _ hres
      have j1 := cell_of_row _ _ 1 _ _ _ hres
      have j2 := cell_of_row _ _ 2 _ _ _ hres
      refine bodyPost_ret (v := .agg #[.slice (some ⟨gN, 0, none⟩) K K, .slice (some ⟨gL, 0, none⟩) K K, .slice (some ⟨gR, 0, none⟩) m m]) (by simp [results, Tryd.results78, go_sem, j0, j1, j2]) rfl ?_
      exact ⟨gN, gL, gR, V, rfl, hout, hBf⟩
end Go.Proofs.YtngpfondnampjaaDoor
