/- WidthChecks: the law's walk. -/
import Derived.Test.YtngpfondnampjaaDoorWAwk
import Derived.Test.YtngpfondnampjaaDoorRPtn
import Derived.Test.YtngpfondnampjaaDoorRVd7
namespace Go.Proofs.YtngpfondnampjaaDoor
open Go.RowKit Go.Sort
theorem great2_any (A : Option Addr) (n c : Nat) (R : Nat → RowD) (v : Bool) (w : World) (h : Rel w A n R) (hv : v = true ↔ GreatP n R) :
    Calls Tryd.prog 9 #[.agg #[.slice A n c]] w fun e w' => e = .returned (.bool v) ∧ Below w.heap.size w w' := by
  by_cases hn : n ≤ 1000000
  · exact great_any A n c R v w h hn hv
  · have r0 := relAt_new w A n c
    have b0 := below_new w (.cells #[.slice A n c] 24)
    have c0 := r0.c0
    obtain rfl : v = true := hv.2 (.inr (.inl (by omega)))
    have d1 : decide (70 < (n : Int)) = true := decide_eq_true (by omega)
    have d2 : decide ((n : Int) ≤ 512) = false := decide_eq_false (by omega)
    have d3 : decide (520 < (n : Int)) = true := decide_eq_true (by omega)
    clear hv h hn
    go_enter Tryd.func9, Tryd.ntmps9
    go_wp2_with fail
    go_ret
    exact ⟨rfl, b0⟩
theorem llong2_any (A : Option Addr) (n c : Nat) (B : Nat → LsD) (v : Bool) (w : World) (h : Lss w A n B) (hv : v = true ↔ LongP n B) :
    Calls Tryd.prog 10 #[.slice A n c] w fun e w' => e = .returned (.bool v) ∧ Below w.heap.size w w' := by
  by_cases hn : n ≤ 1000000
  · exact llong_any A n c B v w h hn hv
  · have d1 : decide (60 < (n : Int)) = true := decide_eq_true (by omega)
    obtain rfl : v = true := hv.2 (.inl (by omega))
    clear hv h hn
    go_enter Tryd.func10, Tryd.ntmps10
    go_wp2_with fail
    go_ret
    exact ⟨rfl, Below.refl _ _⟩
theorem size_cnt {n l : Nat} {s : Nat → Nat} (h : Vld (n : Int) l s) : ((List.range n).filter (bt s)).length = cnt s l := by
  rw [cnt_mem]
  have hm := mem_row (n := n) (r := ⟨n, none, l, 0, s⟩) ⟨rfl, h⟩
  exact congrArg List.length hm.symm
set_option maxRecDepth 100000 in
set_option maxHeartbeats 8000000 in
theorem wc_law (A : Option Addr) (n c : Nat) (R : Nat → RowD) (Al : Option Addr) (m cl : Nat) (z : Nat → Int) (N : Int) (S : Option Addr) (ls cs : Nat) (s : Nat → Nat) (C : Option Addr) (k ck : Nat) (B : Nat → LsD) (w : World) (h : Rel w A n R) (hz : Ints w Al m z) (hS : Wds w S ls s) (hC : Lss w C k B) (hT : Tab w) :
    Calls Tryd.prog 3 #[.agg #[.slice A n c], .slice Al m cl, .agg #[.int .i64 N, .slice S ls cs], .slice C k ck] w fun e w' => e = .returned (.bool true) ∧ Below w.heap.size w w' := by
  have HH := Lib.hid h
  have HZ := Lib.hid hz
  have HS := Lib.hid hS
  have HC := Lib.hid hC
  have r0 := (relAt_new w A n c).alloc (.cells #[.int .i64 N, .slice S ls cs] 28)
  have q0 := setAt_new (w.alloc (.cells #[.slice A n c] 24)) N S ls cs
  have hz1 : (w.alloc (.cells #[.slice A n c] 24)).heap.size = w.heap.size + 1 := by simp
  rw [hz1] at q0
  have b0 : Below w.heap.size w ((w.alloc (.cells #[.slice A n c] 24)).alloc (.cells #[.int .i64 N, .slice S ls cs] 28)) := ((Below.refl _ _).alloc (Nat.le_refl _) _).alloc (by simp) _
  obtain ⟨vg, hvg⟩ : ∃ v : Bool, v = true ↔ GreatP n R := ⟨@decide _ (Classical.propDecidable _), @decide_eq_true_iff _ (Classical.propDecidable _)⟩
  obtain ⟨vl, hvl⟩ : ∃ v : Bool, v = true ↔ LongP k B := ⟨@decide _ (Classical.propDecidable _), @decide_eq_true_iff _ (Classical.propDecidable _)⟩
  have HVG := Lib.hid hvg
  have HVL := Lib.hid hvl
  clear h hz hS hC hz1 hvg hvl
  go_enter Tryd.func3, Tryd.ntmps3
  go_upto_region 1 with fail
  generalize (w.alloc (.cells #[.slice A n c] 24)).alloc (.cells #[.int .i64 N, .slice S ls cs] 28) = W at *
  go_wp2_with fail
  refine (awake_any W (hT.below b0)).mono ?_; rintro e w1 ⟨rfl, b1⟩
  have r1 := r0.below b1
  have q1 := q0.below b1
  have B1 := below_next b0 b1
  clear r0 q0 b0 b1
  have c0 := r1.c0
  go_wp2_with fail
  refine (great2_any A n c R vg w1 (HH.out.below B1) HVG.out).mono ?_; rintro e w2 ⟨rfl, b2⟩
  have r2 := r1.below b2
  have q2 := q1.below b2
  have B2 := below_next B1 b2
  clear r1 q1 B1 b2 c0
  cases vg with
  | true =>
    go_wp2_with fail
    go_ret
    exact ⟨rfl, B2⟩
  | false =>
    have hng : ¬ GreatP n R := fun h => by have := HVG.out.2 h; cases this
    have hn : n ≤ 520 := Classical.byContradiction fun h => hng (.inr (.inl (by omega)))
    have hn70 : n ≤ 512 → n ≤ 70 := fun h => Classical.byContradiction fun h2 => hng (.inl ⟨by omega, h⟩)
    clear hng HVG
    by_cases hm : 60 < m
    · have d1 : decide (60 < (m : Int)) = true := decide_eq_true (by omega)
      clear hm
      go_wp2_with fail
      go_ret
      exact ⟨rfl, B2⟩
    · have d1 : decide (60 < (m : Int)) = false := decide_eq_false (by omega)
      have s0 := q2.c0
      have s1 := q2.c1
      by_cases hl : 20 < ls
      · have d2 : decide (20 < (ls : Int)) = true := decide_eq_true (by omega)
        clear hl
        go_wp2_with fail
        go_ret
        exact ⟨rfl, B2⟩
      · have d2 : decide (20 < (ls : Int)) = false := decide_eq_false (by omega)
        have HLL := Lib.hid (llong2_any C k ck B vl w2 (HC.out.below B2) HVL.out)
        clear hl
        go_wp2_with fail
        refine HLL.out.mono ?_; rintro e w3 ⟨rfl, b3⟩
        have r3 := r2.below b3
        have q3 := q2.below b3
        have B3 := below_next B2 b3
        clear HLL r2 q2 B2 b3 s0 s1 d1 d2
        cases vl with
        | true =>
          go_wp2_with fail
          go_ret
          exact ⟨rfl, B3⟩
        | false =>
          have hnl : ¬ LongP k B := fun h => by have := HVL.out.2 h; cases this
          have hk : k ≤ 1000 := Classical.byContradiction fun h => hnl (.inl (by omega))
          have HBM : Hid (∀ i, i < k → (B i).m ≤ 1000) := Lib.hid fun i hi => Classical.byContradiction fun h => hnl (.inr ⟨i, hi, by omega⟩)
          clear hnl HVL
          have hm1 : m ≤ 1000000 := by omega
          have hn1 : n ≤ 1000000 := by omega
          obtain ⟨vp, hvp⟩ : ∃ v : Bool, v = true ↔ POrd n R := ⟨@decide _ (Classical.propDecidable _), @decide_eq_true_iff _ (Classical.propDecidable _)⟩
          obtain ⟨vc, hvc⟩ : ∃ v : Bool, v = true ↔ ChainP n (mat R) z m := ⟨@decide _ (Classical.propDecidable _), @decide_eq_true_iff _ (Classical.propDecidable _)⟩
          obtain ⟨va, hva⟩ : ∃ v : Bool, v = true ↔ AntiP n (mat R) N ls s := ⟨@decide _ (Classical.propDecidable _), @decide_eq_true_iff _ (Classical.propDecidable _)⟩
          obtain ⟨vr, hvr⟩ : ∃ v : Bool, v = true ↔ PartR n (mat R) B k := ⟨@decide _ (Classical.propDecidable _), @decide_eq_true_iff _ (Classical.propDecidable _)⟩
          obtain ⟨vk, hvk⟩ : ∃ v : Bool, v = true ↔ ChkP n R N ls s B k := ⟨@decide _ (Classical.propDecidable _), @decide_eq_true_iff _ (Classical.propDecidable _)⟩
          have HCH : Hid (∀ u v, Below w.heap.size w u → (v = true ↔ POrd n R ∧ ChainP n (mat R) z m) → Calls Tryd.prog 12 #[.agg #[.slice A n c], .slice Al m cl] u fun e w' => e = .returned (.bool v) ∧ Below u.heap.size u w') := Lib.hid fun u v hu hv => ischain_any A Al n c m cl R z v u (HH.out.below hu) hn1 (hT.below hu) (HZ.out.below hu) hm1 hv
          have HAN : Hid (∀ u v, Below w.heap.size w u → (v = true ↔ POrd n R ∧ AntiP n (mat R) N ls s) → Calls Tryd.prog 13 #[.agg #[.slice A n c], .agg #[.int .i64 N, .slice S ls cs]] u fun e w' => e = .returned (.bool v) ∧ Below u.heap.size u w') := Lib.hid fun u v hu hv => isanti_any A S n c ls cs N R s v u (HH.out.below hu) hn1 (hT.below hu) (HS.out.below hu) hv
          have HCK : Hid (∀ u, Below w.heap.size w u → Calls Tryd.prog 14 #[.agg #[.slice A n c], .agg #[.int .i64 N, .slice S ls cs], .slice C k ck] u fun e w' => e = .returned (.bool vk) ∧ Below u.heap.size u w') := Lib.hid fun u hu => check_any A S C n c ls cs k ck N R s B vk u (HH.out.below hu) hn1 (hT.below hu) (HS.out.below hu) (HC.out.below hu) hk HBM.out hvk
          have HVP := Lib.hid hvp
          have HVC := Lib.hid hvc
          have HVA := Lib.hid hva
          have HVR := Lib.hid hvr
          have HVK := Lib.hid hvk
          clear hvp hvc hva hvr hvk
          have c0 := r3.c0
          go_wp2_with fail
          refine (rvalid7_any A n c R vp w3 (HH.out.below B3) HVP.out).mono ?_; rintro e w4 ⟨rfl, b4⟩
          have r4 := r3.below b4
          have q4 := q3.below b4
          have B4 := below_next B3 b4
          clear r3 q3 B3 b4 c0
          have c0 := r4.c0
          have s0 := q4.c0
          have s1 := q4.c1
          cases vp with
          | false =>
            have hno : Hid (¬ POrd n R) := Lib.hid fun h => by have := HVP.out.2 h; cases this
            obtain rfl : vk = false := by
              cases hc : vk with
              | false => rfl
              | true => exact absurd (HVK.out.1 hc).1.1 hno.out
            go_wp2_with fail
            refine (HCH.out w4 false B4 ⟨fun h => (by cases h), fun h => absurd h.1 hno.out⟩).mono ?_; rintro e w5 ⟨rfl, b5⟩
            have r5 := r4.below b5
            have q5 := q4.below b5
            have B5 := below_next B4 b5
            clear c0 s0 s1 r4 q4 B4 b5
            have c0 := r5.c0
            have s0 := q5.c0
            have s1 := q5.c1
            go_wp2_with fail
            refine (HAN.out w5 false B5 ⟨fun h => (by cases h), fun h => absurd h.1 hno.out⟩).mono ?_; rintro e w6 ⟨rfl, b6⟩
            have r6 := r5.below b6
            have q6 := q5.below b6
            have B6 := below_next B5 b6
            clear c0 s0 s1 r5 q5 B5 b6
            have c0 := r6.c0
            have s0 := q6.c0
            have s1 := q6.c1
            go_wp2_with fail
            refine (HCK.out w6 B6).mono ?_; rintro e w7 ⟨rfl, b7⟩
            go_wp2_with fail
            go_ret
            exact ⟨rfl, below_next B6 b7⟩
          | true =>
            have hP := Lib.hid (HVP.out.1 (by first | rfl | exact trivial))
            have hn5 := hP.out.1.1
            have HTB := Lib.hid (rtable_any A n c R w4 (HH.out.below B4) hP.out.1)
            unfold TabOk at HTB
            go_wp2_with fail
            refine HTB.out.mono ?_; rintro e w5 ⟨vt, Bl, Cl, rfl, hBT, b5⟩
            obtain ⟨At, ct, rfl⟩ := hBT.form
            have r5 := r4.below b5
            have q5 := q4.below b5
            have B5 := below_next B4 b5
            have HT := Lib.hid hBT
            clear c0 s0 s1 r4 q4 B4 b5 HTB hBT
            have c0 := r5.c0
            have s0 := q5.c0
            have s1 := q5.c1
            go_wp2_with fail
            refine (ranti_any At S n ct ls cs _ N Bl Cl (mat R) s va w5 HT.out hn5 (HS.out.below B5) HVA.out).mono ?_; rintro e w6 ⟨rfl, b6⟩
            have r6 := r5.below b6
            have q6 := q5.below b6
            have B6 := below_next B5 b6
            have HT6 := Lib.hid (HT.out.below b6)
            clear c0 s0 s1 r5 q5 B5 b6 HT
            have c0 := r6.c0
            go_wp2_with fail
            refine (HCH.out w6 vc B6 (HVC.out.trans ⟨fun h => ⟨hP.out, h⟩, fun h => h.2⟩)).mono ?_; rintro e w7 ⟨rfl, b7⟩
            have r7 := r6.below b7
            have q7 := q6.below b7
            have B7 := below_next B6 b7
            have HT7 := Lib.hid (HT6.out.below b7)
            clear c0 r6 q6 B6 b7 HT6
            go_wp2_with fail
            refine (rchain_any At Al n ct m cl _ Bl Cl (mat R) z vc w7 HT7.out hn5 (HZ.out.below B7) hm1 HVC.out).mono ?_; rintro e w8 ⟨rfl, b8⟩
            have r8 := r7.below b8
            have q8 := q7.below b8
            have B8 := below_next B7 b8
            have HT8 := Lib.hid (HT7.out.below b8)
            clear r7 q7 B7 b8 HT7 HCH HVC
            have c0 := r8.c0
            have s0 := q8.c0
            have s1 := q8.c1
            have e1 : (vc == vc) = true := by simp
            go_wp2_with fail
            refine (HAN.out w8 va B8 (HVA.out.trans ⟨fun h => ⟨hP.out, h⟩, fun h => h.2⟩)).mono ?_; rintro e w9 ⟨rfl, b9⟩
            have r9 := r8.below b9
            have q9 := q8.below b9
            have B9 := below_next B8 b9
            have HT9 := Lib.hid (HT8.out.below b9)
            clear c0 s0 s1 r8 q8 B8 b9 HT8 HAN e1
            have c0 := r9.c0
            have s0 := q9.c0
            have s1 := q9.c1
            have e2 : (va == va) = true := by simp
            go_wp2_with fail
            refine (HCK.out w9 B9).mono ?_; rintro e w10 ⟨rfl, b10⟩
            have q10 := q9.below b10
            have B10 := below_next B9 b10
            have HT10 := Lib.hid (HT9.out.below b10)
            clear c0 s0 s1 r9 q9 B9 b10 HT9 HCK e2
            cases va with
            | false =>
              obtain rfl : vk = false := by
                cases hc : vk with
                | false => rfl
                | true => have := HVA.out.2 (HVK.out.1 hc).1.2; cases this
              go_wp2_with fail
              go_ret
              exact ⟨rfl, B10⟩
            | true =>
              have hA := Lib.hid (HVA.out.1 (by first | rfl | exact trivial))
              go_wp2_with fail
              refine (rpart_any At C n ct k ck _ Bl Cl (mat R) B vr w10 HT10.out hn5 (HC.out.below B10) hk HBM.out HVR.out).mono ?_; rintro e w11 ⟨rfl, b11⟩
              have q11 := q10.below b11
              have B11 := below_next B10 b11
              clear q10 B10 b11 HT10
              have hkr : Hid (vk = true ↔ k = cnt s ls ∧ vr = true) := Lib.hid ⟨fun h => ⟨(HVK.out.1 h).2.1, HVR.out.2 ((part_iff hn5).1 (HVK.out.1 h).2.2)⟩, fun h => HVK.out.2 ⟨⟨hP.out, hA.out⟩, h.1, (part_iff hn5).2 (HVR.out.1 h.2)⟩⟩
              cases vr with
              | false =>
                obtain rfl : vk = false := by
                  cases hc : vk with
                  | false => rfl
                  | true => have := (hkr.out.1 hc).2; cases this
                go_wp2_with fail
                go_ret
                exact ⟨rfl, B11⟩
              | true =>
                obtain rfl : N = n := hA.out.1
                have hl9 : ls = (n + 63) / 64 := by have := hA.out.2.1.2.2.1; simpa using this
                have HSZ := Lib.hid (rsize_any n S ls cs s w11 (HS.out.below B11) hl9 hn5)
                rw [size_cnt hA.out.2.1] at HSZ
                have s0 := q11.c0
                have s1 := q11.c1
                obtain ⟨q, hq⟩ : ∃ q, cnt s ls = q := ⟨_, rfl⟩
                rw [hq] at HSZ
                have hkq : ((k : Int) == (q : Int)) = vk := bool_ext (by rw [beq_iff_eq, hkr.out, hq]; exact ⟨fun h => ⟨by omega, by first | rfl | exact trivial⟩, fun h => by omega⟩)
                have e3 : (vk == vk) = true := by simp
                clear hl9 hq hkr
                go_wp2_with fail
                refine HSZ.out.mono ?_; rintro e w12 ⟨rfl, b12⟩
                go_wp2_with fail
                go_ret
                exact ⟨rfl, below_next B11 b12⟩
end Go.Proofs.YtngpfondnampjaaDoor
