/- Package width: isPartitionOf. -/
import Derived.Test.YtngpfondnampjaaDoorMGa
namespace Go.Proofs.YtngpfondnampjaaDoor
open Go.RowKit Go.Sort
structure LsD where
  A : Option Addr
  m : Nat
  c : Nat
  z : Nat → Int
/- a list of lists -/
def Lss (w : World) (A : Option Addr) (k : Nat) (B : Nat → LsD) : Prop :=
  0 < k → ∃ b off, A = some ⟨b, off, none⟩ ∧ b < w.heap.size ∧ ∀ i, i < k → w.cell? ⟨b, off + i, none⟩ = some (.slice (B i).A (B i).m (B i).c) ∧ Ints w (B i).A (B i).m (B i).z
theorem Lss.below {w w' : World} {A : Option Addr} {k : Nat} {B : Nat → LsD} (h : Lss w A k B) (hb : Below w.heap.size w w') : Lss w' A k B := fun hk => by
  obtain ⟨b, off, hA, hlt, hc⟩ := h hk
  exact ⟨b, off, hA, Nat.lt_of_lt_of_le hlt hb.size, fun i hi => ⟨(hb.cell (p := ⟨b, off + i, none⟩) hlt).trans (hc i hi).1, (hc i hi).2.below hb⟩⟩
def zL (z : Nat → Int) (m : Nat) : List Nat := (List.range m).map fun j => (z j).toNat
theorem zL_len (z : Nat → Int) (m : Nat) : (zL z m).length = m := by simp [zL]
def flat (B : Nat → LsD) : Nat → List Nat
  | 0 => []
  | K + 1 => flat B K ++ zL (B K).z (B K).m
theorem flat_len {B : Nat → LsD} {k : Nat} (h : ∀ i, i < k → (B i).m ≤ 1000) : ∀ K, K ≤ k → (flat B K).length ≤ K * 1000
  | 0, _ => by simp [flat]
  | K + 1, hK => by
    have := flat_len h K (by omega)
    have h2 := h K (by omega)
    simp only [flat, List.length_append, zL_len]
    omega
theorem flat_lt {B : Nat → LsD} {n k : Nat} {T : Nat → Nat → Bool} (h : ∀ i, i < k → ChainP n T (B i).z (B i).m) : ∀ K, K ≤ k → ∀ x, x ∈ flat B K → x < n
  | 0, _, x, hx => by simp [flat] at hx
  | K + 1, hK, x, hx => by
    rcases List.mem_append.1 hx with hx | hx
    · exact flat_lt h K (by omega) x hx
    · obtain ⟨j, hj, rfl⟩ := List.mem_map.1 hx
      have := (h K (by omega) j (List.mem_range.1 hj)).1
      omega
def PartG (n : Nat) (T : Nat → Nat → Bool) (B : Nat → LsD) (k : Nat) : Prop := ∀ i, i < k → 0 < (B i).m ∧ ChainP n T (B i).z (B i).m
def PartP (n : Nat) (T : Nat → Nat → Bool) (B : Nat → LsD) (k : Nat) : Prop := PartG n T B k ∧ (flat B k).length = n ∧ cnt (setF (flat B k)) ((n + 63) / 64) = (flat B k).length
theorem vals_app (l : List Nat) {z : Nat → Int} {m : Nat} (h : ∀ j, j < m → 0 ≤ z j) : vals (l ++ zL z m) = vals l ++ (List.range m).map fun j => Value.int .i64 (z j) := by
  unfold vals zL
  rw [List.map_append, List.map_map]
  congr 1
  refine List.map_congr_left fun j hj => ?_
  have := h j (List.mem_range.1 hj)
  show Value.int .i64 (((z j).toNat : Nat) : Int) = _
  rw [Int.toNat_of_nonneg this]
theorem append_list {ops : Array Oper} {rest : List Oper} {o : Oper} {a : Act} {Q : Exit → Act → World → Prop} (hgd : o.guard = none) (s x : Operand)
    (ho : o.op = .call { callee := .builtin .append, args := #[s, x], argTypes := #[25, 25] }) (base : Nat) (v : Value) (l : List Nat) (w : World) (hs : a.eval s = v)
    (hown : w.ownsRow base 3 1 v l.length (vals l)) (b off m c : Nat) (z : Nat → Int) (hx : a.eval x = .slice (some ⟨b, off, none⟩) m c) (hz : ∀ j, j < m → w.cell? ⟨b, off + j, none⟩ = some (.int .i64 (z j))) (hz0 : ∀ j, j < m → 0 ≤ z j) (hm : 0 < m) (hl : l.length + m ≤ 2000000) (hbase : base ≤ w.heap.size)
    (h : ∀ g cap w', w'.ownsRow base 3 1 (.slice (some ⟨g, 0, none⟩) (l.length + m) cap) (l ++ zL z m).length (vals (l ++ zL z m)) → w.grownBy w' v.ownBlock → wpList Tryd.prog ops Q rest (a.put o.dst (.slice (some ⟨g, 0, none⟩) (l.length + m) cap)) w') :
    wpList Tryd.prog ops Q (o :: rest) a w := by
  obtain ⟨ti, hi, hz', hsz', hb'⟩ := info_parts Tryd.info3
  refine wpList_append_lies w hgd s x 25 ho base 3 ti _ 1 8 Tryd.underlying25 hi hz' hsz' hb' rfl (by decide) v l.length (vals l) hs hown ⟨b, off, none⟩ m c ((List.range m).map fun j => Value.int .i64 (z j)) hx (by simp) ?_ ?_ hm (by unfold maxLen; omega) (by omega) hbase w.heap.size rfl (fun g cap w' h1 h2 _ _ => h g cap w' ?_ h2)
  · intro j u hu
    have hj : j < m := by have := (List.getElem?_eq_some_iff.1 hu).1; simpa using this
    have hadd : (⟨b, off, none⟩ : Addr).add j = ⟨b, off + j, none⟩ := by unfold Addr.add; split <;> simp_all
    rw [hadd, hz j hj]
    rw [List.getElem?_map, List.getElem?_range hj] at hu
    simpa using hu
  · intro u hu
    obtain ⟨j, _, rfl⟩ := List.mem_map.1 hu
    rfl
  · rw [vals_app l hz0, List.length_append, zL_len]; exact h1
set_option maxRecDepth 100000 in
set_option maxHeartbeats 4000000 in
theorem part_any (A C : Option Addr) (n c k ck : Nat) (R : Nat → RowD) (B : Nat → LsD) (v : Bool) (w : World) (h : Rel w A n R) (hv : VRel n R) (hC : Lss w C k B) (hk : k ≤ 1000) (hm : ∀ i, i < k → (B i).m ≤ 1000) (hvv : v = true ↔ PartP n (mat R) B k) :
    Calls Tryd.prog 47 #[.agg #[.slice A n c], .slice C k ck] w fun e w' => e = .returned (.bool v) ∧ Below w.heap.size w w' := by
  have HH := Lib.hid h
  have HV := Lib.hid hv
  have HC := Lib.hid hC
  have HVV := Lib.hid hvv
  have HM := Lib.hid hm
  have hn := hv.1
  have b0 : Below w.heap.size w (w.alloc (.cells #[.slice A n c] 24)) := (Below.refl _ _).alloc (Nat.le_refl _) _
  have r0 := relAt_new w A n c
  clear h hv hC hvv hm
  go_enter Tryd.func47, Tryd.ntmps47
  go_upto_region 1 with fail
  generalize w.alloc (.cells #[.slice A n c] 24) = W at *
  go_wp2_with fail
  go_loopw [5, 12] (fun x i wr => ∃ (K : Nat) (v : Value), K ≤ k ∧ i = .int .i64 K ∧ v = x ∧ Hid (PartG n (mat R) B K) ∧ wr.ownsRow (w.heap.size + 1) 3 1 v (flat B K).length (vals (flat B K)) ∧ RelAt wr w.heap.size A n c ∧ Below w.heap.size w wr) (fun _ i _ => k - (intOf i).toNat)
  case atStart => exact ⟨0, _, Nat.zero_le _, rfl, rfl, Lib.hid (fun i hi => absurd hi (Nat.not_lt_zero _)), World.ownsRow_nil _ _ _ _, r0, b0⟩
  case round =>
    clear r0 b0
    obtain ⟨K, pv, hK, rfl, rfl, hQ, hown, hr, hB⟩ := hrel
    have hfl := flat_len HM.out K hK
    by_cases hlt : K < k
    · obtain ⟨b, off, rfl, hbl, hcz⟩ := (HC.out.below hB) (by omega)
      obtain ⟨x0, x1⟩ := hcz K hlt
      have HX1 := Lib.hid x1
      have hmK := HM.out K hlt
      have c0 := hr.c0
      clear hcz x1
      by_cases h0 : (B K).m = 0
      · have d1 : (((B K).m : Int) == 0) = true := by rw [h0]; rfl
        obtain rfl : v = false := by
          cases hc : v with
          | false => rfl
          | true => have := ((HVV.out.1 hc).1 K hlt).1; omega
        clear h0 hmK HX1
        generalize (B K).m = m1 at *
        generalize (B K).A = A1 at *
        generalize (B K).c = c1 at *
        go_wp2_with fail
        go_ret
        exact ⟨rfl, hB⟩
      · have d1 : (((B K).m : Int) == 0) = false := beq_false_of_ne (by omega)
        obtain ⟨v1, hv1⟩ : ∃ v : Bool, v = true ↔ ChainP n (mat R) (B K).z (B K).m := ⟨@decide _ (Classical.propDecidable _), @decide_eq_true_iff _ (Classical.propDecidable _)⟩
        have HV1 := Lib.hid hv1
        have HCH := Lib.hid (chainOf_any A (B K).A n c (B K).m (B K).c R (B K).z v1 wr (HH.out.below hB) HV.out HX1.out (by omega) hv1)
        have hst : Hid (flat B (K + 1) = flat B K ++ zL (B K).z (B K).m) := rfl
        have HPG : Hid (ChainP n (mat R) (B K).z (B K).m → PartG n (mat R) B (K + 1)) := Lib.hid fun hc i hi => by
          by_cases e : i = K
          · subst e; exact ⟨by omega, hc⟩
          · exact hQ.out i (by omega)
        have HVF : Hid (v = true → ChainP n (mat R) (B K).z (B K).m) := Lib.hid fun hc => ((HVV.out.1 hc).1 K hlt).2
        have hpos : 0 < (B K).m := by omega
        clear hv1 h0
        generalize (B K).m = m1 at *
        generalize (B K).A = A1 at *
        generalize (B K).c = c1 at *
        generalize (B K).z = z1 at *
        go_upto_region 5 with fail
        clear x0
        go_wp2_with fail
        refine HCH.out.mono ?_; rintro e w2 ⟨rfl, b2⟩
        have hr2 := hr.below b2
        have hown2 := own_below hown b2
        have B2 := below_next hB b2
        have HX2 := Lib.hid (HX1.out.below b2)
        clear HCH HX1 c0
        cases v1 with
        | false =>
          obtain rfl : v = false := by
            cases hc : v with
            | false => rfl
            | true => have := HV1.out.2 (HVF.out hc); cases this
          go_wp2_with fail
          go_ret
          exact ⟨rfl, B2⟩
        | true =>
          have hch := HV1.out.1 (by first | rfl | exact trivial)
          have hQ2 := Lib.hid (HPG.out hch)
          have hz0 : Hid (∀ j, j < m1 → 0 ≤ z1 j) := Lib.hid fun j hj => (hch j hj).1.1
          obtain ⟨b1, o1, rfl, hb1, hc1⟩ := HX2.out hpos
          have HC1 := Lib.hid hc1
          have hlsz : (flat B K).length + m1 ≤ 2000000 := by omega
          have hbs : w.heap.size + 1 ≤ w2.heap.size := by have := hr2.lt; omega
          have HK : Hid (∀ w3, w2.grownBy w3 pv.ownBlock → RelAt w3 w.heap.size A n c ∧ Below w.heap.size w w3) := Lib.hid fun w3 hg => ⟨(hg.block _ hr2.lt (fun e => by have := (hown2.lt _ e.symm).1; omega)).trans hr2, grown_below2 B2 hown2 (by omega) hg⟩
          clear hch HPG HV1 HVF hr2 hown hr hB b2 HX2 hc1
          generalize flat B K = L at *
          go_wp2_with (at_builtin; refine append_list rfl (.tmp 25) (.tmp 26) rfl (w.heap.size + 1) pv L w2 rfl hown2 b1 o1 m1 c1 z1 rfl HC1.out hz0.out hpos hlsz hbs ?_; intro g9 c9 w9 hown9 hg9)
          obtain ⟨r9, B9⟩ := HK.out _ hg9
          go_roundw
          case rel => exact ⟨K + 1, _, hlt, by go_num, rfl, hQ2, by rw [hst.out]; exact hown9, r9, B9⟩
          case measure => simp [intOf]; omega
    · obtain rfl : K = k := by omega
      have HLT := Lib.hid (flat_lt (fun i hi => (hQ.out i hi).2) K (Nat.le_refl _))
      have HPP : Hid (v = true ↔ (flat B K).length = n ∧ cnt (setF (flat B K)) ((n + 63) / 64) = (flat B K).length) := Lib.hid ⟨fun h => (HVV.out.1 h).2, fun h => HVV.out.2 ⟨hQ.out, h⟩⟩
      have hll : (flat B K).length ≤ 1000000 := by omega
      have HOF := Lib.hid (of_list n pv (w.heap.size + 1) (flat B K) wr hn hown hll HLT.out)
      have HVL := Lib.hid (setF_vld hn HLT.out)
      obtain ⟨AL, cL, rfl, _, _⟩ := own_ints hown
      have c0 := hr.c0
      unfold SetOk at HOF
      clear hown HVV HLT hfl
      generalize flat B K = L at *
      have HUF := Lib.hid (setF_u64 L ((n + 63) / 64))
      generalize setF L = f at *
      generalize L.length = q at *
      generalize hmw : (n + 63) / 64 = mw at *
      go_upto_region 9 with fail
      go_wp2_with fail
      refine HOF.out.mono ?_; rintro e w4 ⟨g, rfl, hg, hrow, b4⟩
      have hr4 := (hr.below b4)
      have B4 := below_next hB b4
      have bn := below_new w4 (.cells #[.int .i64 n, .slice (some ⟨g, 0, none⟩) mw mw] 28)
      have s5 := setAt_new w4 n (some ⟨g, 0, none⟩) mw mw
      have hr5 := hr4.alloc (.cells #[.int .i64 n, .slice (some ⟨g, 0, none⟩) mw mw] 28)
      have hw5 := (row_wds hrow HUF.out).below bn
      have B5 := below_next B4 bn
      clear c0 HOF hr hB hr4 B4 b4 hrow
      go_upto_region 10 with fail
      clear bn
      generalize w4.heap.size = p8 at *
      generalize w4.alloc (.cells #[.int .i64 n, .slice (some ⟨g, 0, none⟩) mw mw] 28) = w5 at *
      have c0 := hr5.c0
      have s0 := s5.c0
      have s1 := s5.c1
      by_cases he : q = n
      · have d1 : ((q : Int) == (n : Int)) = true := by rw [he]; simp
        have HCN := Lib.hid (count_yes n (some ⟨g, 0, none⟩) mw mw f w5 hw5 HVL.out)
        generalize hcq : cnt f mw = cq at *
        have hvq : v = ((cq : Int) == (q : Int)) := bool_ext (by rw [HPP.out]; constructor
                                                                 · rintro ⟨_, h⟩; rw [h]; simp
                                                                 · intro h; exact ⟨he, by have := eq_of_beq h; omega⟩)
        obtain ⟨vq, hq2⟩ : ∃ vq, ((cq : Int) == (q : Int)) = vq := ⟨_, rfl⟩
        rw [hq2] at hvq
        subst hvq
        clear he hcq HPP
        go_wp2_with fail
        refine HCN.out.mono ?_; rintro e w6 ⟨rfl, b6⟩
        go_wp2_with fail
        go_ret
        exact ⟨by first | rfl | rw [hq2], below_next B5 b6⟩
      · have d1 : ((q : Int) == (n : Int)) = false := beq_false_of_ne (by omega)
        obtain rfl : v = false := by
          cases hc : v with
          | false => rfl
          | true => exact absurd (HPP.out.1 hc).1 he
        go_wp2_with fail
        go_ret
        exact ⟨rfl, B5⟩
end Go.Proofs.YtngpfondnampjaaDoor
