/- Merged: PUp, RfF, PRUp. -/
import Derived.Test.YtakjdihhbndcnaaDoorPDwn
import Derived.Test.YtakjdihhbndcnaaDoorMGb
import Derived.Test.YtakjdihhbndcnaaDoorRfB
import Derived.Test.YtakjdihhbndcnaaDoorBitI
import Derived.Deep.RegionHeld3
import Derived.Deep.RegionLaw
/- Package poset: Up. -/
namespace Go.Proofs.YtakjdihhbndcnaaDoor
open Go.RowKit Go.Sort
def upT (n : Nat) (T : Nat → Nat → Bool) (s : Nat → Nat) (i : Nat) : Bool := bt s i || (List.range n).any fun k => bt s k && T k i
theorem set_words {n mw : Nat} {F G : Nat → Nat} (hF : Vld (n : Int) mw F) (hG : Vld (n : Int) mw G) (uF : U64 F mw) (uG : U64 G mw) (h : ∀ j, j < n → bt F j = bt G j) : ∀ k, k < mw → F k = G k :=
  bt_ext uF uG fun i hi => by
    by_cases hn : i < n
    · exact h i hn
    · rw [hF.2.2.2 i (by simpa using hn) hi, hG.2.2.2 i (by simpa using hn) hi]
theorem up_end {n : Nat} {T : Nat → Nat → Bool} {s : Nat → Nat} {m : List Nat} (hm : m = (List.range n).filter (bt s)) (j : Nat) : (bt s j || (m.take m.length).any fun k => T k j) = upT n T s j := by
  subst hm
  rw [List.take_length, List.any_filter]
  rfl
set_option maxRecDepth 100000 in
set_option maxHeartbeats 8000000 in
theorem up_on (A S : Option Addr) (n c cs : Nat) (R : Nat → RowD) (s : Nat → Nat) (w : World) (h : Rel w A n R) (hT : Tab w) (hP : POrd n R) (hS : Wds w S ((n + 63) / 64) s) (hs : Vld (n : Int) ((n + 63) / 64) s) :
    Calls Tryd.prog 34 #[.agg #[.slice A n c], .agg #[.int .i64 n, .slice S ((n + 63) / 64) cs]] w (SetOk w n ((n + 63) / 64) (setF (tl (upT n (mat R) s) true n))) := by
  have hn := hP.1.1
  have HP := Lib.hid hP
  have HH := Lib.hid h
  have HS := Lib.hid hS
  have HVS := Lib.hid hs
  have r0 := ((relAt_new w A n c).alloc (.cells #[.int .i64 n, .slice S ((n + 63) / 64) cs] 37)).alloc (.cells #[.int .i64 0, .slice none 0 0] 37)
  have q0 := (setAt_new (w.alloc (.cells #[.slice A n c] 24)) n S ((n + 63) / 64) cs).alloc (.cells #[.int .i64 0, .slice none 0 0] 37)
  have s0 := setAt_new ((w.alloc (.cells #[.slice A n c] 24)).alloc (.cells #[.int .i64 n, .slice S ((n + 63) / 64) cs] 37)) 0 none 0 0
  have hz : (w.alloc (.cells #[.slice A n c] 24)).heap.size = w.heap.size + 1 := by simp
  have hz2 : ((w.alloc (.cells #[.slice A n c] 24)).alloc (.cells #[.int .i64 n, .slice S ((n + 63) / 64) cs] 37)).heap.size = w.heap.size + 2 := by simp
  rw [hz] at q0
  rw [hz2] at s0
  have b0 : Below w.heap.size w (((w.alloc (.cells #[.slice A n c] 24)).alloc (.cells #[.int .i64 n, .slice S ((n + 63) / 64) cs] 37)).alloc (.cells #[.int .i64 0, .slice none 0 0] 37)) := (((Below.refl _ _).alloc (Nat.le_refl _) _).alloc (by simp) _).alloc (by simp; omega) _
  obtain ⟨mw, hmw⟩ : ∃ mw, (n + 63) / 64 = mw := ⟨_, rfl⟩
  rw [hmw] at HS HVS r0 q0 s0 b0
  rw [hmw]
  have HMW := Lib.hid hmw
  clear hz hz2 hP h hS hs
  go_enter Tryd.func34, Tryd.ntmps34
  go_upto_region 1 with fail
  generalize ((w.alloc (.cells #[.slice A n c] 24)).alloc (.cells #[.int .i64 n, .slice S mw cs] 37)).alloc (.cells #[.int .i64 0, .slice none 0 0] 37) = W at *
  clear hmw
  have c0 := r0.c0
  go_wp2_with fail
  refine (pvalid_any A n c R true W (HH.out.below b0) (by omega) (hT.below b0) ⟨fun _ => HP.out, fun _ => rfl⟩).mono ?_; rintro e w2 ⟨rfl, b2⟩
  have r2 := r0.below b2
  have q2 := q0.below b2
  have s2 := s0.below b2
  have B2 := below_next b0 b2
  clear r0 q0 s0 c0 b0 b2
  have c0 := r2.c0
  have d0 := q2.c0
  have d1 := q2.c1
  go_wp2_with fail
  refine (isSetOf_yes A S n c mw cs s w2 (HS.out.below B2) HVS.out).mono ?_; rintro e w3 ⟨rfl, b3⟩
  have r3 := r2.below b3
  have q3 := q2.below b3
  have s3 := s2.below b3
  have B3 := below_next B2 b3
  clear r2 q2 s2 c0 d0 d1 B2 b3
  have d0 := q3.c0
  have d1 := q3.c1
  have HM := Lib.hid (pmembers_any n ⟨n, S, mw, cs, s⟩ w3 (HS.out.below B3) ⟨rfl, HVS.out⟩ (hT.below B3))
  unfold RowOut at HM
  obtain ⟨m, hm⟩ : ∃ m, m = (List.range n).filter (bt s) := ⟨_, rfl⟩
  have hmm : Hid (∀ x, x ∈ m → x < n) := Lib.hid fun x hx => by rw [hm, List.mem_filter, List.mem_range] at hx; exact hx.1
  have hmb : Hid (∀ j, bt (setF m) j = (decide (j < n) && bt s j)) := Lib.hid fun j => by
    rw [Bool.eq_iff_iff, setF_bt, hm, List.mem_filter, List.mem_range, Bool.and_eq_true, decide_eq_true_eq]
  have hml : m.length ≤ n := by
    rw [hm]
    have := List.length_filter_le (bt s) (List.range n)
    simpa using this
  rw [← hm] at HM
  have HMM := Lib.hid hm
  clear hm
  go_wp2_with fail
  refine HM.out.mono ?_; rintro e w4 ⟨vm, rfl, hown, b4⟩
  have r4 := r3.below b4
  have q4 := q3.below b4
  have s4 := s3.below b4
  have B4 := below_next B3 b4
  have HO := Lib.hid (of_list n vm w3.heap.size m w4 hn hown (by omega) hmm.out)
  obtain ⟨Am, cm, rfl, hIm, _⟩ := own_ints hown
  have HIm := Lib.hid hIm
  rw [HMW.out] at HO
  unfold SetOk at HO
  clear r3 q3 s3 d0 d1 B3 b4 HM hown hIm
  have d0 := q4.c0
  go_wp2_with fail
  refine HO.out.mono ?_; rintro e w5 ⟨g, rfl, hg, hrow, b5⟩
  have r5 := r4.below b5
  have s5 := s4.below b5
  have B5 := below_next B4 b5
  have bx : Below w5.heap.size w5 (w5.alloc (.cells #[.int .i64 n, .slice (some ⟨g, 0, none⟩) mw mw] 37)) := (Below.refl _ _).alloc (Nat.le_refl _) _
  have hq := setAt_new w5 n (some ⟨g, 0, none⟩) mw mw
  have hgne : g ≠ w5.heap.size := by have := hrow.lt; omega
  have HI5 := Lib.hid (HIm.out.below b5)
  have hrow6 := row_below hrow bx
  have hF0 : Hid (Vld (n : Int) mw (setF m) ∧ U64 (setF m) mw ∧ ∀ j, j < n → bt (setF m) j = (bt s j || (m.take 0).any fun k => mat R k j)) := Lib.hid ⟨by rw [← HMW.out]; exact setF_vld hn hmm.out, setF_u64 _ _, fun j hj => by rw [hmb.out, decide_eq_true hj]; simp⟩
  have hw5 : w.heap.size + 2 < w5.heap.size := s5.lt
  have hw4 : w.heap.size ≤ w4.heap.size := B4.size
  clear r4 q4 s4 d0 B4 b5 HO hrow HIm
  go_upto_region 5 with fail
  generalize w5.alloc (.cells #[.int .i64 n, .slice (some ⟨g, 0, none⟩) mw mw] 37) = w6 at *
  go_wp2_with fail
  go_loopw [32] (fun i wr => ∃ (D g : Nat) (F : Nat → Nat), D ≤ m.length ∧ i = .int .i64 D ∧ SetAt wr w5.heap.size n (some ⟨g, 0, none⟩) mw mw ∧ wr.rowIs g 59 mw (fun k => .int .u64 (F k : Nat)) ∧ g ≠ w5.heap.size ∧ w.heap.size ≤ g ∧ Hid (Vld (n : Int) mw F ∧ U64 F mw ∧ ∀ j, j < n → bt F j = (bt s j || (m.take D).any fun k => mat R k j)) ∧ Below w5.heap.size w5 wr) (fun i _ => m.length - (intOf i).toNat)
  case atStart => exact ⟨0, g, setF m, Nat.zero_le _, rfl, hq, hrow6, hgne, by omega, hF0, bx⟩
  case round =>
    clear hq hrow6 hgne hF0 bx
    obtain ⟨D, g, F, hD, rfl, hq, hrow, hgne, hgw, hF, hB⟩ := hrel
    by_cases hlt : D < m.length
    · have hwrap : IntKind.i64.wrap ((D : Int) + 1) = (D : Int) + 1 := IntWalk.i64_in _ (by omega)
      obtain ⟨bm, om, rfl, hbm, hcm⟩ := (HI5.out.below hB) (by omega)
      have z0 := hcm D hlt
      unfold gets at z0
      rw [getD_lt hlt] at z0
      have hkn := hmm.out _ (List.getElem_mem hlt)
      have htk : Hid (∀ p : Nat → Bool, (m.take (D + 1)).any p = ((m.take D).any p || p m[D])) := Lib.hid fun p => by
        rw [List.take_succ_eq_append_getElem hlt, List.any_append]; simp
      generalize m[D] = k at *
      have hr := r5.below hB
      have c0 := hr.c0
      obtain ⟨b, off, rfl, hbl, hcz⟩ := (HH.out.below (below_next B5 hB)) (by omega)
      obtain ⟨x0, x1, xw⟩ := hcz k hkn
      have hvk := HP.out.1.2 k hkn
      have hlk : (R k).l = mw := (HP.out.1.l hkn).trans HMW.out
      rw [hvk.1] at x0
      rw [hlk] at x1 xw
      have hvk2 : Vld (n : Int) mw (R k).f := by rw [← hlk]; exact hvk.2
      have hmk : Hid (∀ j, bt (R k).f j = mat R k j) := Lib.hid fun _ => rfl
      have W1 : Hid (Wds wr (some ⟨g, 0, none⟩) mw F) := Lib.hid (row_wds hrow hF.out.2.1)
      have W2 := Lib.hid xw
      have V2 := Lib.hid hvk2
      generalize (R k).A = A2 at *
      generalize (R k).c = c2 at *
      generalize (R k).f = f2 at *
      have hun : Hid (∀ w', Wds w' (some ⟨g, 0, none⟩) mw F → Wds w' A2 mw f2 → Calls Tryd.prog 71 #[.agg #[.int .i64 n, .slice (some ⟨g, 0, none⟩) mw mw], .agg #[.int .i64 n, .slice A2 mw c2]] w' (SetOk w' n mw (comb orW F f2))) := Lib.hid fun w' h1 h2 => unionB_any n (some ⟨g, 0, none⟩) A2 mw mw c2 F f2 w' h1 h2 hF.out.1 V2.out
      have u0 := hq.c0
      have u1 := hq.c1
      have HQ := Lib.hid hq
      unfold SetOk at hun
      have hql := hq.lt
      clear hcm hcz xw hvk hvk2 hlk hr hrow hq
      go_upto_region 8 with fail
      go_region_with (go_at_call 71; (with_reducible refine (hun.out _ W1.out.drew W2.out.drew).mono ?_); rintro e w7 ⟨g7, rfl, hg7, hrow7, b7⟩; have bc7 := below_next (Below.refl _ _).drew b7; have q7 := HQ.out.below bc7; have e0 := q7.c0; have e1 := q7.c1; have f0 := q7.free 0; have f1 := q7.free 1)
      all_goals
        have hg7' : w5.heap.size < g7 := Nat.lt_of_lt_of_le hql hg7
        have hq8 := setAt_put (N' := (n : Int)) (A' := some ⟨g7, 0, none⟩) (l' := mw) (c' := mw) q7
        have hrow8 := (hrow7.setOther (a := ⟨w5.heap.size, 0, none⟩) (by show g7 ≠ w5.heap.size; omega) (.int .i64 (n : Int))).setOther (a := ⟨w5.heap.size, 1, none⟩) (by show g7 ≠ w5.heap.size; omega) (.slice (some ⟨g7, 0, none⟩) mw mw)
        have hB8 := ((below_next hB bc7).setCell (p := ⟨w5.heap.size, 0, none⟩) (Nat.le_refl _) (.int .i64 (n : Int))).setCell (p := ⟨w5.heap.size, 1, none⟩) (Nat.le_refl _) (.slice (some ⟨g7, 0, none⟩) mw mw)
        have hF8 : Hid (Vld (n : Int) mw (comb orW F f2) ∧ U64 (comb orW F f2) mw ∧ ∀ j, j < n → bt (comb orW F f2) j = (bt s j || (m.take (D + 1)).any fun k => mat R k j)) := Lib.hid ⟨vld_or2 hF.out.1 V2.out, u64_or2 hF.out.2.1 W2.out.1, fun j hj => by rw [htk.out]; exact (bt_or F f2 j).trans (by rw [hF.out.2.2 j hj, hmk.out j, Bool.or_assoc])⟩
        clear hF hB x0 x1 z0 u0 u1 c0 bc7 b7 hrow7 q7 e0 e1 f0 f1 W1 W2 HQ hun
        go_wp2_with fail
        go_roundw
        case rel => exact ⟨D + 1, g7, comb orW F f2, by omega, by go_num, hq8, hrow8, by omega, by omega, hF8, hB8⟩
        case measure => simp [intOf]; omega
    · obtain rfl : D = m.length := by omega
      have sx := s5.below hB
      have u0 := hq.c0
      have u1 := hq.c1
      have k0 := sx.c0
      have k1 := sx.c1
      have f0 := sx.free 0
      have f1 := sx.free 1
      by_cases hgs : g = w.heap.size + 2
      · have h1 : wr.heap[g]? = some (.cells #[.int .i64 0, .slice none 0 0] 37 (0, 0)) := by rw [hgs]; exact sx
        obtain ⟨cs2, h2, _⟩ := hrow
        rw [h1] at h2
        injection h2 with h2
        injection h2 with _ h3 _
        exact absurd h3 (by decide)
      have sy := setAt_put (N' := (n : Int)) (A' := some ⟨g, 0, none⟩) (l' := mw) (c' := mw) sx
      have j0 := sy.c0
      have j1 := sy.c1
      have hfin : ∀ k, k < mw → F k = setF (tl (upT n (mat R) s) true n) k := set_words hF.out.1 (by rw [← HMW.out]; exact setF_vld hn (fun x hx => (tl_mem.1 hx).1)) hF.out.2.1 (setF_u64 _ _) (fun j hj => by
        rw [hF.out.2.2 j hj, up_end HMM.out j, Bool.eq_iff_iff, setF_bt, tl_mem]
        exact ⟨fun h => ⟨hj, h⟩, fun h => h.2⟩)
      have HROW := Lib.hid ((((hrow.setOther (a := ⟨w.heap.size + 2, 0, none⟩) (by exact hgs) (.int .i64 (n : Int))).setOther (a := ⟨w.heap.size + 2, 1, none⟩) (by exact hgs) (.slice (some ⟨g, 0, none⟩) mw mw))).congr (fun k hk => by rw [hfin k hk]))
      have B9 := Lib.hid (((below_next B5 hB).setCell (p := ⟨w.heap.size + 2, 0, none⟩) (by show w.heap.size ≤ w.heap.size + 2; omega) (.int .i64 (n : Int))).setCell (p := ⟨w.heap.size + 2, 1, none⟩) (by show w.heap.size ≤ w.heap.size + 2; omega) (.slice (some ⟨g, 0, none⟩) mw mw))
      clear hfin hrow hq sx sy hB hF
      go_wp2_with fail
      refine bodyPost_ret (v := .tuple #[.agg #[.int .i64 n, .slice (some ⟨g, 0, none⟩) mw mw], .int .i64 0]) (by simp [results, Tryd.results34, go_sem, j0, j1]) rfl ?_
      exact ⟨g, rfl, hgw, HROW.out, B9.out⟩
end Go.Proofs.YtakjdihhbndcnaaDoor
/- The reference of sets: Union. -/
namespace Go.Proofs.YtakjdihhbndcnaaDoor
open Go.RowKit
/- the words of a list of numbers -/
def ofl (l : List Nat) : Nat → Nat := ow (fun k => l.getD k 0) l.length
theorem refOf_own (N : Nat) (v : Value) (l : List Nat) (base : Nat) (w : World) (hN : N ≤ 512) (h : w.ownsRow base 3 1 v l.length (vals l)) (hn : l.length ≤ 100000) (hz : ∀ i, i ∈ l → i < N) :
    Calls Tryd.prog 42 #[.int .i64 N, v] w (SetNew w N ((N + 63) / 64) (ofl l)) := by
  obtain ⟨A, c, rfl, hi, _⟩ := own_ints h
  refine refOf_any N A l.length c (fun k => l.getD k 0) w hN hi hn (fun k hk => ?_)
  show l.getD k 0 < N
  rw [List.getD_eq_getElem?_getD, List.getElem?_eq_getElem hk]
  exact hz _ (List.getElem_mem hk)
/- append in a region that draws its order: a slice of the call's own -/
theorem step_append_row {ops : Array Oper} {o : Oper} {a : Act} {K : Act → World → Prop} {Q : Exit → Act → World → Prop} {E : Prop} (hgd : o.guard = none) (s x : Operand)
    (ho : o.op = .call { callee := .builtin .append, args := #[s, x], argTypes := #[40, 40] }) (base base' : Nat) (v u : Value) (l m : List Nat) (w : World) (hs : a.eval s = v)
    (hown : w.ownsRow base 3 1 v l.length (vals l)) (hx : a.eval x = u) (hu : w.ownsRow base' 3 1 u m.length (vals m)) (hl : l.length + m.length ≤ 1000000) (hbase : base ≤ w.heap.size)
    (h : ∀ v' w', w'.ownsRow base 3 1 v' (l ++ m).length (vals (l ++ m)) → w.grownBy w' v.ownBlock → K (a.put o.dst v') w') :
    if Region.wanted o (yielded ops a.tmps) = true then Oper.wp Tryd.prog o a w K Q else E := by
  obtain ⟨i0, hi0, hz0, hz1, hz2⟩ := info_parts Tryd.info3
  have hw : Region.wanted o (yielded ops a.tmps) = true := by simp [Region.wanted, hgd]
  rw [if_pos hw]
  have hva : vals (l ++ m) = vals l ++ vals m := by simp [vals]
  rcases hu.2 with ⟨rfl, hm⟩ | ⟨g, cap, cur, rfl, hb, hg, hnc, hcm, hcs, ht⟩
  · have hm0 : m = [] := List.eq_nil_of_length_eq_zero hm
    subst hm0
    have hrun := run_append_owned_none (P := Tryd.prog) (w := w) base 40 o.type 3 i0 1 Tryd.underlying40 hi0 v l.length (vals l) hown
    unfold Oper.wp
    simp [execOp, ho, resolve, invoke, builtin, hs, hx, hrun, Result.andThen]
    exact h _ _ (by simpa using hown) (World.grownBy.refl w _)
  · refine wp_append_own w s x 40 ho base 3 i0 (.int .i64 0) 1 8 Tryd.underlying40 hi0 hz0 hz1 hz2 rfl (by decide) v l.length (vals l) hs hown ⟨g, 0, none⟩ m.length cap (vals m) hx (by rw [vals_len]; omega)
      (hu.cells (g := g) rfl) (vals_one m) (by unfold maxLen; omega) (by omega) hbase (fun v' w' h1 h2 _ => h v' w' ?_ h2)
    rw [hva, List.length_append]; exact h1
theorem ofl_u64 (l : List Nat) (m : Nat) : U64 (ofl l) m := ow_u64 _ _ _
set_option maxRecDepth 100000 in
set_option maxHeartbeats 4000000 in
theorem refUnion_any (N : Nat) (A B : Option Addr) (la ca lb cb : Nat) (f g : Nat → Nat) (w : World) (ha : Wds w A la f) (hb : Wds w B lb g) (hN : N ≤ 512) (hla : la = (N + 63) / 64) (hlb : lb = (N + 63) / 64) :
    Calls Tryd.prog 73 #[.agg #[.int .i64 N, .slice A la ca], .agg #[.int .i64 N, .slice B lb cb]] w (SetNew w N ((N + 63) / 64) (ofl (mem f N ++ mem g N))) := by
  have HA := Lib.hid ha; clear ha
  have HB := Lib.hid hb; clear hb
  have hNa : N ≤ 64 * la := by omega
  have hNb : N ≤ 64 * lb := by omega
  have ha9 : la ≤ 9 := by omega
  have hb9 : lb ≤ 9 := by omega
  have hmm : ∀ j, j ∈ mem f N ++ mem g N → j < N := by
    intro j hj
    rcases List.mem_append.1 hj with h | h <;> exact (mem_in.1 h).1
  have HM := Lib.hid hmm; clear hmm hla hlb
  have hmf := mem_len_le f N
  have hmg := mem_len_le g N
  go_enter Tryd.func73, Tryd.ntmps73
  go_wp2_with fail
  have h0 := twoR_new w N N A B la ca lb cb
  go_region_held3 (fun w' => TwoR w w' N N A B la ca lb cb ∧ w'.cell? ⟨w.heap.size, 0, none⟩ = some (.int .i64 N) ∧ w'.cell? ⟨w.heap.size, 1, none⟩ = some (.slice A la ca) ∧ w'.cell? ⟨w.heap.size + 1, 0, none⟩ = some (.int .i64 N) ∧ w'.cell? ⟨w.heap.size + 1, 1, none⟩ = some (.slice B lb cb) ∧
      w'.cell? ⟨w.heap.size + 2, 0, none⟩ = some (RC w' (w.heap.size + 2) 0) ∧ w'.cell? ⟨w.heap.size + 2, 1, none⟩ = some (RC w' (w.heap.size + 2) 1) ∧ w'.frozen? ⟨w.heap.size + 2, 0, none⟩ = false ∧ w'.frozen? ⟨w.heap.size + 2, 1, none⟩ = false)
    (first
      | exact h0.drew.full
      | exact (TwoR.next (And.left (by assumption)) b2).full
      | exact (TwoR.next (And.left (by assumption)) b3).full
      | exact (TwoR.next (And.left (by assumption)) b4).full
      | exact (TwoR.grown (And.left (by assumption)) hownV (by omega) hg).full
      | exact (TwoR.grown (And.left (by assumption)) (own_below hownV b3) (by omega) hg).full
      | exact (TwoR.stored (And.left (by assumption)) _ _).full)
    (first
      | (go_at_call_of 43 (Value.agg #[.int .i64 N, .slice A la ca]); refine (refMembers_any N A la ca f _ (HA.out.below (Two.b (TwoR.two (And.left (by assumption))))) hNa ha9).mono ?_; rintro e w2 ⟨v, rfl, hown1, b2⟩
         have hownV := own_mono (base' := w.heap.size + 3) hown1 (Res.lt (TwoR.r (And.left (by assumption)))))
      | (go_at_call_of 43 (Value.agg #[.int .i64 N, .slice B lb cb]); refine (refMembers_any N B lb cb g _ (HB.out.below (Two.b (TwoR.two (And.left (by assumption))))) hNb hb9).mono ?_; rintro e w3 ⟨u, rfl, hown2, b3⟩)
      | (refine step_append_row (by rfl) (.tmp 8) (.tmp 10) (by rfl) (w.heap.size + 3) _ v u (mem f N) (mem g N) _ (by rfl) (by first | exact hownV | exact own_below hownV b3) (by rfl) (by first | exact hown2 | exact own_below hown2 b2) (by omega) (Res.lt (TwoR.r (And.left (by assumption)))) ?_; intro v2 w4 hownG hg)
      | (go_at_call 42; refine (refOf_own N v2 (mem f N ++ mem g N) _ _ hN hownG (by simp; omega) HM.out).mono ?_; rintro e w5 ⟨gg, rfl, hg4, hrow, b4⟩))
  all_goals
    have hF : TwoR w ((w5.setCell ⟨w.heap.size + 2, 0, none⟩ (.int .i64 N)).setCell ⟨w.heap.size + 2, 1, none⟩ (.slice (some ⟨gg, 0, none⟩) ((N + 63) / 64) ((N + 63) / 64))) N N A B la ca lb cb := And.left (by assumption)
    obtain ⟨r0, r1⟩ := hF.r.stored
    have hw4 := hg.size
    have hw3 := b3.size
    have hw2 := b2.size
    go_wp2_with fail
    refine bodyPost_ret (v := .agg #[.int .i64 N, .slice (some ⟨gg, 0, none⟩) ((N + 63) / 64) ((N + 63) / 64)]) (by simp [results, Tryd.results73, go_sem, r0, r1]) rfl ?_
    simp at hw2 hw3 hw4
    exact ⟨gg, rfl, by omega, (hrow.setOther (by show gg ≠ w.heap.size + 2; omega) _).setOther (by show gg ≠ w.heap.size + 2; omega) _, hF.two.b⟩
end Go.Proofs.YtakjdihhbndcnaaDoor
/- The reference's Up. -/
namespace Go.Proofs.YtakjdihhbndcnaaDoor
open Go.RowKit Go.Sort
theorem ofl_bt (l : List Nat) (i : Nat) : bt (ofl l) i = true ↔ i ∈ l := by
  unfold ofl
  rw [bt_ow]
  constructor
  · rintro ⟨k, hk, he⟩
    rw [getD_lt hk] at he
    rw [← he]; exact List.getElem_mem hk
  · intro hm
    obtain ⟨k, hk⟩ := List.mem_iff_getElem?.1 hm
    obtain ⟨hkl, hke⟩ := List.getElem?_eq_some_iff.1 hk
    exact ⟨k, hkl, by rw [getD_lt hkl, hke]⟩
theorem ofl_un {n : Nat} {F f : Nat → Nat} {j : Nat} (hj : j < n) : bt (ofl (mem F n ++ mem f n)) j = (bt F j || bt f j) := by
  rw [Bool.eq_iff_iff, ofl_bt, List.mem_append, mem_in, mem_in, Bool.or_eq_true]
  exact ⟨fun h => h.imp (fun h => h.2) (fun h => h.2), fun h => h.imp (fun h => ⟨hj, h⟩) (fun h => ⟨hj, h⟩)⟩
set_option maxRecDepth 100000 in
set_option maxHeartbeats 8000000 in
theorem rup_any (A S : Option Addr) (n c cs : Nat) (R : Nat → RowD) (s : Nat → Nat) (w : World) (h : Rel w A n R) (hv : VRel n R) (hS : Wds w S ((n + 63) / 64) s) :
    Calls Tryd.prog 38 #[.agg #[.slice A n c], .agg #[.int .i64 n, .slice S ((n + 63) / 64) cs]] w (SetNew w n ((n + 63) / 64) (setF (tl (upT n (mat R) s) true n))) := by
  have hn := hv.1
  have HV := Lib.hid hv
  have HH := Lib.hid h
  have HS := Lib.hid hS
  have r0 := ((relAt_new w A n c).alloc (.cells #[.int .i64 n, .slice S ((n + 63) / 64) cs] 37)).alloc (.cells #[.int .i64 0, .slice none 0 0] 37)
  have q0 := (setAt_new (w.alloc (.cells #[.slice A n c] 24)) n S ((n + 63) / 64) cs).alloc (.cells #[.int .i64 0, .slice none 0 0] 37)
  have s0 := setAt_new ((w.alloc (.cells #[.slice A n c] 24)).alloc (.cells #[.int .i64 n, .slice S ((n + 63) / 64) cs] 37)) 0 none 0 0
  have hz : (w.alloc (.cells #[.slice A n c] 24)).heap.size = w.heap.size + 1 := by simp
  have hz2 : ((w.alloc (.cells #[.slice A n c] 24)).alloc (.cells #[.int .i64 n, .slice S ((n + 63) / 64) cs] 37)).heap.size = w.heap.size + 2 := by simp
  rw [hz] at q0
  rw [hz2] at s0
  have b0 : Below w.heap.size w (((w.alloc (.cells #[.slice A n c] 24)).alloc (.cells #[.int .i64 n, .slice S ((n + 63) / 64) cs] 37)).alloc (.cells #[.int .i64 0, .slice none 0 0] 37)) := (((Below.refl _ _).alloc (Nat.le_refl _) _).alloc (by simp) _).alloc (by simp; omega) _
  have hN64 : n ≤ 64 * ((n + 63) / 64) := by omega
  have hl9 : (n + 63) / 64 ≤ 9 := by omega
  have hvl : ∀ k, k < n → (R k).l = (n + 63) / 64 := fun k hk => hv.l hk
  have hofm : ∀ (F : Nat → Nat) (u : World) (v : Value) (base : Nat), u.ownsRow base 3 1 v (mem F n).length (vals (mem F n)) → Calls Tryd.prog 42 #[.int .i64 n, v] u (SetNew u n ((n + 63) / 64) (setF (mem F n))) := fun F u v base ho => ofr_list n v base (mem F n) u hn ho (by have := mem_len_le F n; omega) (fun x hx => (mem_in.1 hx).1)
  have hunm : ∀ (F f : Nat → Nat) (A B : Option Addr) (ca cb : Nat) (u : World), Wds u A ((n + 63) / 64) F → Wds u B ((n + 63) / 64) f → Calls Tryd.prog 73 #[.agg #[.int .i64 n, .slice A ((n + 63) / 64) ca], .agg #[.int .i64 n, .slice B ((n + 63) / 64) cb]] u (SetNew u n ((n + 63) / 64) (ofl (mem F n ++ mem f n))) := fun F f A B ca cb u h1 h2 => refUnion_any n A B _ ca _ cb F f u h1 h2 hn rfl rfl
  have hoflu : ∀ (l : List Nat), U64 (ofl l) ((n + 63) / 64) := fun l => ofl_u64 l _
  generalize (n + 63) / 64 = mw at *
  have HVL := Lib.hid hvl
  have HOF := Lib.hid hofm
  have HUN := Lib.hid hunm
  have HOU := Lib.hid hoflu
  obtain ⟨l, hm⟩ : ∃ l, l = mem s n := ⟨_, rfl⟩
  have hmm : Hid (∀ x, x ∈ l → x < n) := Lib.hid fun x hx => by rw [hm] at hx; exact (mem_in.1 hx).1
  have hml : l.length ≤ n := by rw [hm]; exact mem_len_le s n
  have HMM := Lib.hid hm
  clear hz hz2 h hS hm hv hvl hofm hunm hoflu
  go_enter Tryd.func38, Tryd.ntmps38
  go_upto_region 1 with fail
  generalize ((w.alloc (.cells #[.slice A n c] 24)).alloc (.cells #[.int .i64 n, .slice S mw cs] 37)).alloc (.cells #[.int .i64 0, .slice none 0 0] 37) = W at *
  have d0 := q0.c0
  have d1 := q0.c1
  have HM := Lib.hid (refMembers_any n S mw cs s W (HS.out.below b0) hN64 hl9)
  rw [← HMM.out] at HM
  unfold RowOut at HM
  go_wp2_with fail
  refine HM.out.mono ?_; rintro e w4 ⟨vm, rfl, hown, b4⟩
  have r4 := r0.below b4
  have q4 := q0.below b4
  have s4 := s0.below b4
  have B4 := below_next b0 b4
  have hw4 : w.heap.size + 2 < w4.heap.size := s4.lt
  obtain ⟨Am, cm, rfl, hIm, _⟩ := own_ints hown
  have HIm := Lib.hid hIm
  clear r0 q0 s0 b0 d0 d1 HM hown hIm b4
  have d0 := q4.c0
  have d1 := q4.c1
  have bx : Below w4.heap.size w4 (w4.alloc (.cells #[.int .i64 n, .slice S mw cs] 37)) := (Below.refl _ _).alloc (Nat.le_refl _) _
  have hq := setAt_new w4 n S mw cs
  have hW0 := Lib.hid ((HS.out.below B4).below bx)
  go_upto_region 3 with fail
  clear d0 d1
  generalize w4.alloc (.cells #[.int .i64 n, .slice S mw cs] 37) = w6 at *
  have hF0 : Hid (∀ j, j < n → bt s j = (bt s j || (l.take 0).any fun k => mat R k j)) := Lib.hid fun j _ => by simp
  go_wp2_with fail
  go_loopw [7] (fun i wr => ∃ (D : Nat) (Q : Option Addr) (cq : Nat) (F : Nat → Nat), D ≤ l.length ∧ i = .int .i64 D ∧ SetAt wr w4.heap.size n Q mw cq ∧ Hid (Wds wr Q mw F) ∧ Hid (∀ j, j < n → bt F j = (bt s j || (l.take D).any fun k => mat R k j)) ∧ Below w4.heap.size w4 wr) (fun i _ => l.length - (intOf i).toNat)
  case atStart => exact ⟨0, S, cs, s, Nat.zero_le _, rfl, hq, hW0, hF0, bx⟩
  case round =>
    clear hq hW0 hF0 bx
    obtain ⟨D, Q, cq, F, hD, rfl, hq, hW, hF, hB⟩ := hrel
    by_cases hlt : D < l.length
    · have hwrap : IntKind.i64.wrap ((D : Int) + 1) = (D : Int) + 1 := IntWalk.i64_in _ (by omega)
      obtain ⟨bm, om, rfl, hbm, hcm⟩ := (HIm.out.below hB) (by omega)
      have z0 := hcm D hlt
      unfold gets at z0
      rw [getD_lt hlt] at z0
      have hkn := hmm.out _ (List.getElem_mem hlt)
      have htk : Hid (∀ p : Nat → Bool, (l.take (D + 1)).any p = ((l.take D).any p || p l[D])) := Lib.hid fun p => by
        rw [List.take_succ_eq_append_getElem hlt, List.any_append]; simp
      generalize l[D] = k at *
      have hr := r4.below hB
      have c0 := hr.c0
      obtain ⟨b, off, rfl, hbl, hcz⟩ := (HH.out.below (below_next B4 hB)) (by omega)
      obtain ⟨x0, x1, xw⟩ := hcz k hkn
      have hvk := HV.out.2 k hkn
      have hlk : (R k).l = mw := HVL.out k hkn
      rw [hvk.1] at x0
      rw [hlk] at x1 xw
      have hmk : Hid (∀ j, bt (R k).f j = mat R k j) := Lib.hid fun _ => rfl
      have W2 := Lib.hid xw
      generalize (R k).A = A2 at *
      generalize (R k).c = c2 at *
      generalize (R k).f = f2 at *
      have hun : Hid (∀ w', Wds w' Q mw F → Wds w' A2 mw f2 → Calls Tryd.prog 73 #[.agg #[.int .i64 n, .slice Q mw cq], .agg #[.int .i64 n, .slice A2 mw c2]] w' (SetNew w' n mw (ofl (mem F n ++ mem f2 n)))) := Lib.hid fun w' h1 h2 => HUN.out F f2 Q A2 cq c2 w' h1 h2
      have u0 := hq.c0
      have u1 := hq.c1
      have HQ := Lib.hid hq
      unfold SetNew at hun
      have hql := hq.lt
      clear hcm hcz xw hvk hlk hr hq
      go_upto_region 6 with fail
      go_region_with (go_at_call 73; (with_reducible refine (hun.out _ hW.out.drew W2.out.drew).mono ?_); rintro e w7 ⟨g7, rfl, hg7, hrow7, b7⟩; have bc7 := below_next (Below.refl _ _).drew b7; have q7 := HQ.out.below bc7; have e0 := q7.c0; have e1 := q7.c1; have f0 := q7.free 0; have f1 := q7.free 1)
      all_goals
        have hg7' : w4.heap.size < g7 := Nat.lt_of_lt_of_le hql hg7
        have hq8 := setAt_put (N' := (n : Int)) (A' := some ⟨g7, 0, none⟩) (l' := mw) (c' := mw) q7
        have hrow8 := (hrow7.setOther (a := ⟨w4.heap.size, 0, none⟩) (by show g7 ≠ w4.heap.size; omega) (.int .i64 (n : Int))).setOther (a := ⟨w4.heap.size, 1, none⟩) (by show g7 ≠ w4.heap.size; omega) (.slice (some ⟨g7, 0, none⟩) mw mw)
        have hB8 := ((below_next hB bc7).setCell (p := ⟨w4.heap.size, 0, none⟩) (Nat.le_refl _) (.int .i64 (n : Int))).setCell (p := ⟨w4.heap.size, 1, none⟩) (Nat.le_refl _) (.slice (some ⟨g7, 0, none⟩) mw mw)
        have hW8 := Lib.hid (row_wds hrow8 (HOU.out (mem F n ++ mem f2 n)))
        have hF8 : Hid (∀ j, j < n → bt (ofl (mem F n ++ mem f2 n)) j = (bt s j || (l.take (D + 1)).any fun k => mat R k j)) := Lib.hid fun j hj => by rw [htk.out, ofl_un hj, hF.out j hj, hmk.out j, Bool.or_assoc]
        clear hF hB x0 x1 z0 u0 u1 c0 bc7 b7 hrow7 q7 e0 e1 f0 f1 hW W2 HQ hun hrow8
        go_wp2_with fail
        go_roundw
        case rel => exact ⟨D + 1, some ⟨g7, 0, none⟩, mw, ofl (mem F n ++ mem f2 n), by omega, by go_num, hq8, hW8, hF8, hB8⟩
        case measure => simp [intOf]; omega
    · obtain rfl : D = l.length := by omega
      have HR2 := Lib.hid (s4.below hB)
      have HS2 := Lib.hid (q4.below hB)
      have u0 := hq.c0
      have u1 := hq.c1
      have ks := (q4.below hB).c0
      have BB := Lib.hid (below_next B4 hB)
      have hset : Hid (setF (mem F n) = setF (tl (upT n (mat R) s) true n)) := Lib.hid (setF_eq fun x => by
        rw [mem_in, tl_mem]
        constructor
        · rintro ⟨h1, h2⟩
          rw [hF.out x h1, up_end HMM.out x] at h2
          exact ⟨h1, h2⟩
        · rintro ⟨h1, h2⟩
          exact ⟨h1, by rw [hF.out x h1, up_end HMM.out x]; exact h2⟩)
      have hmb := Lib.hid (fun (u : World) (hu : Wds u Q mw F) => refMembers_any n Q mw cq F u hu hN64 hl9)
      have hob := Lib.hid (HOF.out F)
      rw [hset.out] at hob
      unfold RowOut at hmb
      unfold SetNew at hob
      have hw8 : w.heap.size + 2 < wr.heap.size := Nat.lt_of_lt_of_le hw4 hB.size
      clear hq hB hF hset
      go_upto_region 7 with fail
      go_region_law (go_simp; first
        | ((with_reducible refine (hmb.out _ hW.out.drew).mono ?_); rintro e w7 ⟨v7, rfl, hown7, b7⟩; have bc7 := below_next (Below.refl _ _).drew b7; have k7 := (HS2.out.below bc7).c0)
        | ((with_reducible refine (hob.out _ _ _ hown7).mono ?_); rintro e w8 ⟨g8, rfl, hg8, hrow8, b8⟩; have bc8 := below_next bc7 b8; have s8 := HR2.out.below bc8; have e0 := s8.c0; have e1 := s8.c1; have f0 := s8.free 0; have f1 := s8.free 1))
      all_goals
        have hg8' : w.heap.size + 2 < g8 := by have h1 := b7.size; have h2 : wr.drew.heap.size = wr.heap.size := rfl; omega
        have s9 := setAt_put (N' := (n : Int)) (A' := some ⟨g8, 0, none⟩) (l' := mw) (c' := mw) s8
        have j0 := s9.c0
        have j1 := s9.c1
        have HROW := Lib.hid ((hrow8.setOther (a := ⟨w.heap.size + 2, 0, none⟩) (by show g8 ≠ w.heap.size + 2; omega) (.int .i64 (n : Int))).setOther (a := ⟨w.heap.size + 2, 1, none⟩) (by show g8 ≠ w.heap.size + 2; omega) (.slice (some ⟨g8, 0, none⟩) mw mw))
        have B9 := Lib.hid (((below_next BB.out bc8).setCell (p := ⟨w.heap.size + 2, 0, none⟩) (by show w.heap.size ≤ w.heap.size + 2; omega) (.int .i64 (n : Int))).setCell (p := ⟨w.heap.size + 2, 1, none⟩) (by show w.heap.size ≤ w.heap.size + 2; omega) (.slice (some ⟨g8, 0, none⟩) mw mw))
        clear s9 hrow8 bc8 b8 bc7 b7 s8 e0 e1 f0 f1 k7 u0 u1 ks
        go_wp2_with fail
        refine bodyPost_ret (v := .agg #[.int .i64 n, .slice (some ⟨g8, 0, none⟩) mw mw]) (by simp [results, Tryd.results38, go_sem, j0, j1]) rfl ?_
        exact ⟨g8, rfl, by omega, HROW.out, B9.out⟩
end Go.Proofs.YtakjdihhbndcnaaDoor
