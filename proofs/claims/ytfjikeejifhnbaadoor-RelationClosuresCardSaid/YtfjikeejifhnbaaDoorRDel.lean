/- slices.Clone and slices.Delete at lists of pairs. -/
import Derived.Test.YtfjikeejifhnbaaDoorRIns
import Derived.Deep.RegionLaw
import Derived.Deep.MidRow
namespace Go.Proofs.YtfjikeejifhnbaaDoor
open Go.RowKit
theorem clone_pairs (l : List (Nat × Nat)) (base : Nat) (v : Value) (w : World) (hl : 0 < l.length) (hl2 : l.length ≤ 1000000) (h : w.ownsRow base 38 2 v l.length (pvals l)) :
    Calls Tryd.prog 38 #[v] w fun e w' => ∃ g c, e = .returned (.slice (some ⟨g, 0, none⟩) l.length c) ∧ w'.ownsRow w.heap.size 38 2 (.slice (some ⟨g, 0, none⟩) l.length c) l.length (pvals l) ∧ w.heap.size ≤ g ∧ Below w.heap.size w w' := by
  obtain ⟨b, cc, rfl, _, hb⟩ := h.form hl
  have hc : Hid (∀ j, j < l.length * 2 → w.cell? ⟨b, j, none⟩ = (pvals l)[j]?) := fun j hj => h.cellAt j hj
  have hpl := Lib.hid (pvals_len l)
  clear h
  obtain ⟨i, hi, hz, hs, hby⟩ := info_parts Tryd.info38
  have q61 : ∀ (w : World) (a : Option Addr) (n c n' c' : Nat), (binOp .eql 25 (.slice a n c) (.slice none n' c')).run Tryd.prog w = .ok (.bool a.isNone) w := fun w a n c n' c' => Lib.run_eql_slice_nil w _ _ a n c n' c' Tryd.underlying25
  go_enter Tryd.func38, Tryd.ntmps38
  go_wp2_with (at_builtin; refine wpList_append_lies _ rfl (.tmp 5) (.tmp 6) 25 rfl w.heap.size 38 i _ 2 16 Tryd.underlying25 hi hz hs hby rfl (by decide) _ 0 [] rfl (World.ownsRow_made w #[] 0 (Nat.le_refl _) (Nat.zero_le _) rfl) ⟨b, 0, none⟩ l.length cc (pvals l) rfl ?q1 ?q2 ?q3 hl ?q4 ?q5 ?q6 _ rfl ?_)
  case q1 => exact hpl.out
  case q2 =>
    intro j u hj
    have hjl : j < l.length * 2 := by
      have := (List.getElem?_eq_some_iff.1 hj).1
      rwa [hpl.out] at this
    have hadd : (⟨b, 0, none⟩ : Addr).add j = ⟨b, j, none⟩ := by unfold Addr.add; split <;> simp_all
    rw [hadd, World.cell?_alloc_past _ _ _ hb, hc.out j hjl]
    exact hj
  case q3 =>
    intro u hu
    obtain ⟨x, _, hx⟩ := List.mem_flatMap.1 hu
    simp at hx
    rcases hx with rfl | rfl <;> rfl
  case q4 => unfold maxLen; omega
  case q5 => omega
  case q6 => simp
  intro g cap w1 hown hgrow hat hlt
  go_wp2
  go_ret
  refine ⟨g, cap, by simp, by simpa using hown, ?_, ((Below.refl _ w).alloc (Nat.le_refl _) _).grown hgrow (by simp) (by intro k hk; simp [Value.ownBlock] at hk; omega)⟩
  rcases hat with h | h
  · simp [Value.ownBlock] at h; omega
  · rw [h]; simp
theorem run_clear_one (w : World) (ty : TypeId) (b o m c : Nat) (hm : m = 1) (hc : ∀ j, j < 2 → (w.cell? ⟨b, o + j, none⟩).isSome = true) (hf : ∀ j, j < 2 → w.frozen? ⟨b, o + j, none⟩ = false) :
    (Builtin.clear_ #[25] ty #[.slice (some ⟨b, o, none⟩) m c]).run Tryd.prog w = .ok (.tuple #[]) (w.setCells b o [.int .i64 0, .int .i64 0]) := by
  subst hm
  obtain ⟨i, hi, hz, hs, hby⟩ := info_parts Tryd.info38
  have hv : ∀ w, (zeroValue 38).run Tryd.prog w = .ok (.agg #[.int .i64 0, .int .i64 0]) w := fun w => by simp [zeroValue, typeInfo, hi, hz]
  have hzc : (Builtin.zeroCells (Value.agg #[.int .i64 0, .int .i64 0]).cells 1).toList = [.int .i64 0, .int .i64 0] := by
    have e : (Value.agg #[.int .i64 0, .int .i64 0]).cells = #[.int .i64 0, .int .i64 0] := by simp [Value.cells]
    rw [e]
    simp [Builtin.zeroCells]
    apply List.ext_getElem
    · simp
    · intro i h1 h2
      simp at h1 h2
      match i, h1 with
      | 0, _ => rfl
      | 1, _ => rfl
  have hst := run_storeCells_cells (P := Tryd.prog) b o [.int .i64 0, .int .i64 0] 0 w (by simpa using hc) (by simpa using hf) (by intro v hv'; simp at hv'; rw [hv']; rfl)
  simp only [Nat.add_zero] at hst
  simp [Builtin.clear_, run_underlying Tryd.underlying25, hv, hzc, hst]
theorem setCells_grown {b : Nat} {a : World} : ∀ (vs : List Value) (o : Nat) {w : World}, a.grownBy w (some b) → a.grownBy (w.setCells b o vs) (some b)
  | [], _, _, h => h
  | v :: vs, o, _, h => setCells_grown vs (o + 1) (grown_trans h (grown_setCell _ ⟨b, o, none⟩ v))
set_option maxHeartbeats 4000000 in
set_option maxRecDepth 1000000 in
theorem delete_pairs (l : List (Nat × Nat)) (base g cap k j : Nat) (w : World) (h : w.ownsRow base 38 2 (.slice (some ⟨g, 0, none⟩) l.length cap) l.length (pvals l)) (hk : k < l.length) (hj : j = k + 1) :
    Calls Tryd.prog 37 #[.slice (some ⟨g, 0, none⟩) l.length cap, .int .i64 k, .int .i64 j] w fun e w' => ∃ c, e = .returned (.slice (some ⟨g, 0, none⟩) (l.length - 1) c) ∧ Prs w' (some ⟨g, 0, none⟩) (l.length - 1) (zpair (l.eraseIdx k)) ∧ w.grownBy w' (some g) := by
  have hcell : Hid (∀ j, j < l.length * 2 → w.cell? ⟨g, j, none⟩ = (pvals l)[j]?) := fun j hj => h.cellAt j hj
  have hfr : Hid (∀ j, w.frozen? ⟨g, j, none⟩ = false) := fun j => h.frozenAt j
  have hpl := pvals_len l
  have hbg : base ≤ g ∧ g < w.heap.size := World.ownsRow.lt h g rfl
  obtain ⟨hnc, hcm⟩ : l.length ≤ cap ∧ cap ≤ maxLen := by
    rcases h.2 with ⟨h0, _⟩ | ⟨g', cap', cur, hv, _, _, h1, h2, _⟩
    · cases h0
    · injection hv with _ _ e; subst e; exact ⟨h1, h2⟩
  have hm : cap ≤ 9223372036854775807 := by unfold maxLen at hcm; omega
  clear hcm h
  obtain ⟨i0, hi0, hz0, hz1, hz2⟩ := info_parts Tryd.info38
  obtain ⟨n, hn⟩ : ∃ n, n = l.length := ⟨_, rfl⟩
  have HN := Lib.hid hn
  rw [← hn] at hk hpl hcell hnc ⊢
  have hlt : k < j := by omega
  have hjn : j ≤ n := by omega
  have hic : k ≤ cap := by omega
  have hjc : j ≤ cap := by omega
  have HJ := Lib.hid hj
  clear hn hj
  obtain ⟨news, hnews⟩ : ∃ news, news = (pvals l).drop (j * 2) := ⟨_, rfl⟩
  have hlen : news.length = (n - j) * 2 := by rw [hnews, List.length_drop, hpl]; omega
  have hget : ∀ t, news[t]? = (pvals l)[j * 2 + t]? := by intro t; rw [hnews, List.getElem?_drop]
  have hcw : ∀ x, x < n * 2 → (w.cell? ⟨g, x, none⟩).isSome = true := fun x hx => by rw [hcell.out x hx, List.getElem?_eq_getElem (by omega)]; rfl
  obtain ⟨A, hA, hsrc⟩ : ∃ A : Addr, (if cap = j then some (⟨g, 0, none⟩ : Addr) else some ⟨g, j * 2, none⟩) = some A ∧ Hid (∀ t u, news[t]? = some u → w.drew.cell? (A.add t) = some u) := by
    by_cases h : cap = j
    · refine ⟨⟨g, 0, none⟩, by simp [h], fun t u hu => ?_⟩
      have h0 : news.length = 0 := by rw [hlen]; omega
      rw [List.length_eq_zero_iff.1 h0] at hu
      simp at hu
    · refine ⟨⟨g, j * 2, none⟩, by simp [h], fun t u hu => ?_⟩
      have ht : t < (n - j) * 2 := by
        have := (List.getElem?_eq_some_iff.1 hu).1
        rwa [hlen] at this
      rw [hget t] at hu
      rw [Addr.add_lit]
      exact (hcell.out (j * 2 + t) (by omega)).trans hu
  have s1 : Hid (news.length = (n - j) * 2) := hlen
  have s2 : Hid (∀ u ∈ news, u.oneCell' = true) := by
    intro u hu
    rw [hnews] at hu
    obtain ⟨x, _, hx⟩ := List.mem_flatMap.1 (List.mem_of_mem_drop hu)
    simp at hx
    rcases hx with rfl | rfl <;> rfl
  have s3 : Hid (∀ t, t < news.length → (w.drew.cell? ⟨g, 0 + k * 2 + t, none⟩).isSome = true ∧ w.drew.frozen? ⟨g, 0 + k * 2 + t, none⟩ = false) := by
    intro t ht
    rw [hlen] at ht
    exact ⟨hcw _ (by omega), hfr.out _⟩
  obtain ⟨W1, hW1⟩ : ∃ W1, W1 = w.drew.setCells g (0 + k * 2) news := ⟨_, rfl⟩
  have hso : ∀ x, x < n * 2 → (W1.cell? ⟨g, x, none⟩).isSome = true := fun x hx => by rw [hW1]; exact World.isSome_setCells g news _ w.drew _ (hcw x hx)
  have hfo : ∀ x, W1.frozen? ⟨g, x, none⟩ = false := fun x => by rw [hW1, World.frozen?_setCells]; exact hfr.out x
  have hcl : ∀ ty, (Builtin.clear_ #[25] ty #[.slice (some ⟨g, (k + (n - j)) * 2, none⟩) (n - (k + (n - j))) (cap - (k + (n - j)))]).run Tryd.prog W1 = .ok (.tuple #[]) (W1.setCells g ((k + (n - j)) * 2) [.int .i64 0, .int .i64 0]) :=
    fun ty => run_clear_one W1 ty g _ _ _ (by have := HJ.out; omega) (fun t ht => hso _ (by have := HJ.out; omega)) (fun t ht => hfo _)
  have hfin : Hid (∀ x, x < (n - 1) * 2 → (W1.setCells g ((k + (n - j)) * 2) [.int .i64 0, .int .i64 0]).cell? ⟨g, x, none⟩ = if x < k * 2 then (pvals l)[x]? else (pvals l)[x + 2]?) := by
    intro x hx
    have hJ := HJ.out
    rw [World.cell?_setCells_out g _ _ W1 _ (fun _ _ => Or.inl (by show x < _; omega)), hW1]
    by_cases h : x < k * 2
    · rw [if_pos h, World.cell?_setCells_out g _ _ w.drew _ (fun _ _ => Or.inl (by show x < _; omega))]
      exact hcell.out x (by omega)
    · rw [if_neg h]
      have hxl : x - k * 2 < news.length := by omega
      have e := World.cell?_setCells_in g news (0 + k * 2) w.drew (fun t ht => (s3.out t ht).1) (x - k * 2) hxl
      rw [show 0 + k * 2 + (x - k * 2) = x by omega] at e
      rw [e, ← List.getElem?_eq_getElem hxl, hget, show j * 2 + (x - k * 2) = x + 2 by omega]
  have hbel : w.grownBy (W1.setCells g ((k + (n - j)) * 2) [.int .i64 0, .int .i64 0]) (some g) := by
    have : w.grownBy W1 (some g) := by rw [hW1]; exact setCells_grown _ _ (grown_of_below (Below.refl _ _).drew _)
    exact setCells_grown _ _ this
  have hgs : g < (W1.setCells g ((k + (n - j)) * 2) [.int .i64 0, .int .i64 0]).heap.size := Nat.lt_of_lt_of_le hbg.2 hbel.size
  have HB := Lib.hid hbel
  have HG := Lib.hid hgs
  have hW : Hid (W1 = w.drew.setCells g (0 + k * 2) news) := hW1
  clear hW1 hso hfo hcw hget hnews hlen hbel hgs hbg hfr hpl
  go_enter Tryd.func37, Tryd.ntmps37
  go_wp2_with fail
  go_region_law (refine step_append_room rfl (.tmp 22) (.tmp 25) 25 rfl 38 i0 2 Tryd.underlying25 hi0 hz1 g 0 k cap (by simp [Act.eval, Act.put]) A (n - j) (cap - j) news (by simp [Act.eval, Act.put]) s1.out hsrc.out s2.out (by omega) s3.out ?_; rw [← hW.out])
  go_wp2
  go_ret
  have hJ := HJ.out
  have hN := HN.out
  refine ⟨cap, by rw [show k + (n - j) = n - 1 by omega]; rfl, fun _ => ⟨g, 0, rfl, HG.out, fun t ht => ?_⟩, HB.out⟩
  have hl1 : t < (l.eraseIdx k).length := by rw [List.length_eraseIdx]; split <;> omega
  have e1 : zpair (l.eraseIdx k) t = ((((l.eraseIdx k)[t].1 : Nat) : Int), (((l.eraseIdx k)[t].2 : Nat) : Int)) := by unfold zpair; rw [List.getD_eq_getElem?_getD, List.getElem?_eq_getElem hl1]; rfl
  have e2 : l[if t < k then t else t + 1]? = some (l.eraseIdx k)[t] := by
    rw [← List.getElem?_eq_getElem hl1, List.getElem?_eraseIdx]
    split <;> rfl
  obtain ⟨g1, g2⟩ := pvals_get e2
  rw [e1, Nat.zero_add, hfin.out (t * 2) (by omega), hfin.out (t * 2 + 1) (by omega)]
  by_cases htk : t < k
  · rw [if_pos (by omega), if_pos (by omega)]
    rw [if_pos htk] at g1 g2
    exact ⟨g1, g2⟩
  · rw [if_neg (by omega), if_neg (by omega)]
    rw [if_neg htk] at g1 g2
    rw [show t * 2 + 2 = (t + 1) * 2 by omega, show t * 2 + 1 + 2 = (t + 1) * 2 + 1 by omega]
    exact ⟨g1, g2⟩
end Go.Proofs.YtfjikeejifhnbaaDoor
