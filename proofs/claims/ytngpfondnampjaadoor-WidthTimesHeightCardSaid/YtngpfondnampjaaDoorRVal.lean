/- The contracts of relation.Valid, and of members. -/
import Derived.Test.YtngpfondnampjaaDoorRel
import Derived.Test.YtngpfondnampjaaDoorROrd
namespace Go.Proofs.YtngpfondnampjaaDoor
open Go.RowKit
theorem vrow_ok (n : Nat) (r : RowD) (p : Nat) (w : World) (hr : Wds w r.A r.l r.f) (hp : p < w.heap.size) (hc : w.cell? ⟨p, 0, none⟩ = some (.int .i64 n)) (h : VRow n r) :
    Calls Tryd.prog 85 #[.agg #[.int .i64 r.N, .slice r.A r.l r.c], .pointer (some ⟨p, 0, none⟩)] w fun e w' => e = .returned (.bool false) ∧ Below w.heap.size w w' := by
  obtain ⟨N, A, l, c, f⟩ := r
  obtain ⟨h1, h2⟩ := h
  replace h1 : N = n := h1
  subst h1
  have HA := Lib.hid hr; clear hr
  have HV := Lib.hid h2; clear h2
  have hO := one_new w n A l c
  have heq : ((n : Int) != (n : Int)) = false := by simp
  have hcw := (hO.b.cell (p := ⟨p, 0, none⟩) hp).trans hc
  clear hc
  have c0 := hO.s.c0
  have c1 := hO.s.c1
  go_enter Tryd.func85, Tryd.ntmps85
  go_wp2_with fail
  refine (valid_yes _ _ _ _ _ _ (HA.out.below hO.b) HV.out).mono ?_; rintro e w2 ⟨rfl, b2⟩
  go_wp2_with fail
  go_ret
  exact ⟨rfl, (hO.next b2).b⟩
theorem vrow_bad (n : Nat) (r : RowD) (p : Nat) (w : World) (hr : Wds w r.A r.l r.f) (hp : p < w.heap.size) (hc : w.cell? ⟨p, 0, none⟩ = some (.int .i64 n)) (h : ¬ VRow n r) :
    Calls Tryd.prog 85 #[.agg #[.int .i64 r.N, .slice r.A r.l r.c], .pointer (some ⟨p, 0, none⟩)] w fun e w' => e = .returned (.bool true) ∧ Below w.heap.size w w' := by
  obtain ⟨N, A, l, c, f⟩ := r
  have HA := Lib.hid hr; clear hr
  have hO := one_new w N A l c
  have hcw := (hO.b.cell (p := ⟨p, 0, none⟩) hp).trans hc
  clear hc
  have c0 := hO.s.c0
  have c1 := hO.s.c1
  by_cases he : N = n
  · subst he
    have heq : ((n : Int) != (n : Int)) = false := by simp
    have HV : Hid (¬ Vld (n : Int) l f) := fun hv => h ⟨rfl, hv⟩
    clear h
    go_enter Tryd.func85, Tryd.ntmps85
    go_wp2_with fail
    refine (valid_no _ _ _ _ _ _ (HA.out.below hO.b) HV.out).mono ?_; rintro e w2 ⟨rfl, b2⟩
    go_wp2_with fail
    go_ret
    exact ⟨rfl, (hO.next b2).b⟩
  · have heq : (N == (n : Int)) = false := beq_false_of_ne he
    have heq2 : (N != (n : Int)) = true := by simp only [bne, heq]; rfl
    clear h he
    go_enter Tryd.func85, Tryd.ntmps85
    go_wp2_with fail
    go_ret
    exact ⟨rfl, hO.b⟩
theorem index_valid (A : Option Addr) (n c : Nat) (R : Nat → RowD) (p J : Nat) (r : Int) (w : World) (h : Rel w A n R) (hn : n ≤ 1000000) (hp : p < w.heap.size) (hc : w.cell? ⟨p, 0, none⟩ = some (.int .i64 n)) (hJ : J ≤ n)
    (hz : ∀ k, k < J → VRow n (R k)) (hr : (r = -1 ∧ J = n) ∨ (r = J ∧ J < n ∧ ¬ VRow n (R J))) :
    Calls Tryd.prog 64 #[.slice A n c, .func (Fn.func 85) #[] #[.pointer (some ⟨p, 0, none⟩)]] w fun e w' => e = .returned (.int .i64 r) ∧ Below w.heap.size w w' := by
  have HH := Lib.hid h; clear h
  have HZ := Lib.hid hz; clear hz
  have HR := Lib.hid hr; clear hr
  have HC := Lib.hid hc; clear hc
  have HP := Lib.hid hp; clear hp
  go_enter Tryd.func64, Tryd.ntmps64
  go_wp2_with fail
  go_loopw [5, 8] (fun x i wr => ∃ K : Nat, K ≤ J ∧ i = .int .i64 K ∧ Below w.heap.size w wr) (fun _ i _ => J - (intOf i).toNat)
  case atStart => exact ⟨0, by omega, rfl, Below.refl _ _⟩
  case round =>
    obtain ⟨K, hK, rfl, hB⟩ := hrel
    have HCW : Hid (wr.cell? ⟨p, 0, none⟩ = some (.int .i64 n)) := (hB.cell (p := ⟨p, 0, none⟩) HP.out).trans HC.out
    have HPW : Hid (p < wr.heap.size) := Nat.lt_of_lt_of_le HP.out hB.size
    by_cases hlt : K < n
    · obtain ⟨b, off, rfl, hbl, hcz⟩ := (HH.out.below hB) (by omega)
      obtain ⟨x0, x1, x2⟩ := hcz K hlt
      have X2 := Lib.hid x2; clear x2
      clear hcz hbl
      by_cases hKJ : K < J
      · have HX := Lib.hid (HZ.out K hKJ)
        go_wp2_with fail
        refine (vrow_ok n (R K) p _ X2.out HPW.out HCW.out HX.out).mono ?_; rintro e w2 ⟨rfl, b2⟩
        go_wp2_with fail
        go_roundw
        case rel => exact ⟨K + 1, by omega, by go_num, below_next hB b2⟩
        case measure => simp [intOf]; omega
      · obtain rfl : K = J := by omega
        rcases HR.out with ⟨_, h2⟩ | ⟨rfl, _, h3⟩
        · omega
        · have HX := Lib.hid h3; clear h3
          go_wp2_with fail
          refine (vrow_bad n (R K) p _ X2.out HPW.out HCW.out HX.out).mono ?_; rintro e w2 ⟨rfl, b2⟩
          go_wp2_with fail
          go_ret
          exact ⟨rfl, below_next hB b2⟩
    · rcases HR.out with ⟨rfl, h2⟩ | ⟨_, h2, _⟩
      · have HJ := Lib.hid h2; clear h2
        go_wp2_with fail
        go_ret
        exact ⟨rfl, hB⟩
      · omega
theorem contains_valid (A : Option Addr) (n c : Nat) (R : Nat → RowD) (p J : Nat) (v : Bool) (w : World) (h : Rel w A n R) (hn : n ≤ 1000000) (hp : p < w.heap.size) (hc : w.cell? ⟨p, 0, none⟩ = some (.int .i64 n)) (hJ : J ≤ n)
    (hz : ∀ k, k < J → VRow n (R k)) (hr : (v = false ∧ J = n) ∨ (v = true ∧ J < n ∧ ¬ VRow n (R J))) :
    Calls Tryd.prog 34 #[.slice A n c, .func (Fn.func 85) #[] #[.pointer (some ⟨p, 0, none⟩)]] w fun e w' => e = .returned (.bool v) ∧ Below w.heap.size w w' := by
  have HH := Lib.hid h; clear h
  have HZ := Lib.hid hz; clear hz
  have HC := Lib.hid hc; clear hc
  rcases hr with ⟨rfl, h2⟩ | ⟨rfl, h2⟩
  · have HR := Lib.hid h2; clear h2
    go_enter Tryd.func34, Tryd.ntmps34
    go_wp2_with fail
    refine (index_valid A n c R p J (-1) _ HH.out hn hp HC.out hJ HZ.out (Or.inl ⟨rfl, HR.out⟩)).mono ?_; rintro e w2 ⟨rfl, b2⟩
    go_wp2_with fail
    go_ret
    exact ⟨rfl, b2⟩
  · have HR := Lib.hid h2; clear h2
    go_enter Tryd.func34, Tryd.ntmps34
    go_wp2_with fail
    refine (index_valid A n c R p J J _ HH.out hn hp HC.out hJ HZ.out (Or.inr ⟨rfl, HR.out⟩)).mono ?_; rintro e w2 ⟨rfl, b2⟩
    go_wp2_with fail
    go_ret
    exact ⟨rfl, b2⟩
theorem first_bad {p : Nat → Prop} {n : Nat} (h : ¬ ∀ k, k < n → p k) : ∃ J, J < n ∧ ¬ p J ∧ ∀ k, k < J → p k := by
  have h' : ∃ k, k < n ∧ ¬ p k := Classical.byContradiction fun hno => h fun k hk => Classical.byContradiction fun hk2 => hno ⟨k, hk, hk2⟩
  obtain ⟨k, hk⟩ := h'
  obtain ⟨y, hy, hmin⟩ := min_exists id (fun k => k < n ∧ ¬ p k) k hk
  exact ⟨y, hy.1, hy.2, fun k hk => Classical.byContradiction fun hk2 => by have : y ≤ k := hmin k ⟨by have := hy.1; omega, hk2⟩; omega⟩
theorem rvalid_no (A : Option Addr) (n c : Nat) (R : Nat → RowD) (w : World) (h : Rel w A n R) (hn : n ≤ 1000000) (hv : ¬ VRel n R) :
    Calls Tryd.prog 66 #[.agg #[.slice A n c]] w fun e w' => e = .returned (.bool false) ∧ Below w.heap.size w w' := by
  have HH := Lib.hid h; clear h
  by_cases h512 : n ≤ 512
  · obtain ⟨J, hJ, hJ2, hJ3⟩ := first_bad (p := fun k => VRow n (R k)) (n := n) (fun h => hv ⟨h512, h⟩)
    have HJ := Lib.hid hJ2
    have HZ := Lib.hid hJ3
    clear hJ2 hJ3 hv
    have b0 : Below w.heap.size w (w.alloc (.cells #[.slice A n c] 24)) := (Below.refl _ _).alloc (Nat.le_refl _) _
    have r0 := relAt_new w A n c
    have hd : decide ((n : Int) ≤ 512) = true := decide_eq_true (by omega)
    go_enter Tryd.func66, Tryd.ntmps66
    go_wp2_with fail
    have b1 := b0.alloc b0.size (.cells #[.int .i64 n] 3)
    have e1 := heap_alloc_new (w.alloc (.cells #[.slice A n c] 24)) (.cells #[.int .i64 (n : Int)] 3)
    have hs : (w.alloc (.cells #[.slice A n c] 24)).heap.size = w.heap.size + 1 := by simp
    rw [hs] at e1
    have HC : Hid (((w.alloc (.cells #[.slice A n c] 24)).alloc (.cells #[.int .i64 (n : Int)] 3)).cell? ⟨w.heap.size + 1, 0, none⟩ = some (.int .i64 n)) := cell_of_row _ _ 0 _ _ _ e1
    clear e1 hs
    refine (contains_valid A n c R (w.heap.size + 1) J true _ (HH.out.below b1) hn (by simp) HC.out (by omega) HZ.out (Or.inr ⟨rfl, hJ, HJ.out⟩)).mono ?_; rintro e w2 ⟨rfl, b2⟩
    go_wp2_with fail
    go_ret
    exact ⟨rfl, below_next b1 b2⟩
  · have hd : decide ((n : Int) ≤ 512) = false := decide_eq_false (by omega)
    clear hv
    go_enter Tryd.func66, Tryd.ntmps66
    go_wp2_with fail
    go_ret
    exact ⟨rfl, ((Below.refl _ _).alloc (Nat.le_refl _) _).alloc (by simp) _⟩
theorem rvalid_yes (A : Option Addr) (n c : Nat) (R : Nat → RowD) (w : World) (h : Rel w A n R) (hv : VRel n R) :
    Calls Tryd.prog 66 #[.agg #[.slice A n c]] w fun e w' => e = .returned (.bool true) ∧ Below w.heap.size w w' := by
  have HH := Lib.hid h; clear h
  have hn := hv.1
  have HZ := Lib.hid hv.2
  clear hv
  have b0 : Below w.heap.size w (w.alloc (.cells #[.slice A n c] 24)) := (Below.refl _ _).alloc (Nat.le_refl _) _
  have r0 := relAt_new w A n c
  have hd : decide ((n : Int) ≤ 512) = true := decide_eq_true (by omega)
  go_enter Tryd.func66, Tryd.ntmps66
  go_wp2_with fail
  have b1 := b0.alloc b0.size (.cells #[.int .i64 n] 3)
  have e1 := heap_alloc_new (w.alloc (.cells #[.slice A n c] 24)) (.cells #[.int .i64 (n : Int)] 3)
  have hs : (w.alloc (.cells #[.slice A n c] 24)).heap.size = w.heap.size + 1 := by simp
  rw [hs] at e1
  have HC : Hid (((w.alloc (.cells #[.slice A n c] 24)).alloc (.cells #[.int .i64 (n : Int)] 3)).cell? ⟨w.heap.size + 1, 0, none⟩ = some (.int .i64 n)) := cell_of_row _ _ 0 _ _ _ e1
  clear e1 hs
  refine (contains_valid A n c R (w.heap.size + 1) n false _ (HH.out.below b1) (by omega) (by simp) HC.out (Nat.le_refl _) HZ.out (Or.inl ⟨rfl, rfl⟩)).mono ?_; rintro e w2 ⟨rfl, b2⟩
  go_wp2_with fail
  go_ret
  exact ⟨rfl, below_next b1 b2⟩
/- the members of a row -/
theorem mem_row {n : Nat} {r : RowD} (h : VRow n r) : mem r.f (64 * r.l) = (List.range n).filter (bt r.f) := by
  rw [mem_all h.2]; rfl
theorem members_row (n : Nat) (r : RowD) (w : World) (ha : Wds w r.A r.l r.f) (hv : VRow n r) (hT : Tab w) :
    Calls Tryd.prog 84 #[.agg #[.int .i64 r.N, .slice r.A r.l r.c]] w (RowOut w ((List.range n).filter (bt r.f))) := by
  have hm := mem_row hv
  obtain ⟨N, A, l, c, f⟩ := r
  have hN : N = n := hv.1
  subst hN
  have HM := fun (w' : World) (h1 : Wds w' A l f) (h2 : Tab w') => members_any n A l c f w' h1 hv.2 h2
  replace hm : mem f (64 * l) = (List.range n).filter (bt f) := hm
  rw [hm] at HM
  have HMM := Lib.hid HM; clear HM hm hv
  show Calls Tryd.prog 84 #[.agg #[.int .i64 n, .slice A l c]] w (RowOut w ((List.range n).filter (bt f)))
  have HA : Hid (Wds w A l f) := ha
  clear ha
  have hO := one_new w n A l c
  have c0 := hO.s.c0
  have c1 := hO.s.c1
  generalize (List.range n).filter (bt f) = L at *
  go_enter Tryd.func84, Tryd.ntmps84
  go_wp2_with fail
  refine (HMM.out _ (HA.out.below hO.b) (hT.below hO.b)).mono ?_; rintro e w2 ⟨v, rfl, hown, b2⟩
  go_wp2_with fail
  go_ret
  exact ⟨v, rfl, own_mono hown hO.b.size, (hO.next b2).b⟩
end Go.Proofs.YtngpfondnampjaaDoor
