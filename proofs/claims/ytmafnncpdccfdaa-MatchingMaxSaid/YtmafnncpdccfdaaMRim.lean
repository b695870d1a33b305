/- The reference's IsMatching. -/
import Derived.Test.YtmafnncpdccfdaaMRhs
namespace Go.Proofs.Ytmafnncpdccfdaa
open Go.RowKit
def sL (Z : Nat → Int × Int) : Nat → Nat → Bool
  | 0 => fun _ => false
  | K + 1 => mark (sL Z K) (Z K).1.toNat
def sR (Z : Nat → Int × Int) : Nat → Nat → Bool
  | 0 => fun _ => false
  | K + 1 => mark (sR Z K) (Z K).2.toNat
theorem sL_eq (Z : Nat → Int × Int) (a : Nat) : ∀ K, sL Z K a = true ↔ mL Z K a ≠ -1
  | 0 => ⟨fun h => (by cases h), fun h => absurd rfl h⟩
  | K + 1 => by
    show mark (sL Z K) (Z K).1.toNat a = true ↔ _
    rw [mark_or, sL_eq Z a K, mL_has, mL_has]
    constructor
    · rintro (⟨i, h1, h2⟩ | h)
      · exact ⟨i, by omega, h2⟩
      · exact ⟨K, by omega, h.symm⟩
    · rintro ⟨i, h1, h2⟩
      by_cases e : i = K
      · subst e; exact .inr h2.symm
      · exact .inl ⟨i, by omega, h2⟩
theorem sR_eq (Z : Nat → Int × Int) (a : Nat) : ∀ K, sR Z K a = true ↔ mR Z K a ≠ -1
  | 0 => ⟨fun h => (by cases h), fun h => absurd rfl h⟩
  | K + 1 => by
    show mark (sR Z K) (Z K).2.toNat a = true ↔ _
    rw [mark_or, sR_eq Z a K, mR_has, mR_has]
    constructor
    · rintro (⟨i, h1, h2⟩ | h)
      · exact ⟨i, by omega, h2⟩
      · exact ⟨K, by omega, h.symm⟩
    · rintro ⟨i, h1, h2⟩
      by_cases e : i = K
      · subst e; exact .inr h2.symm
      · exact .inl ⟨i, by omega, h2⟩
theorem sL_no {Z : Nat → Int × Int} {a K : Nat} (h : sL Z K a = false) : mL Z K a = -1 := Classical.byContradiction fun e => by
  have := (sL_eq Z a K).2 e; rw [h] at this; cases this
theorem sR_no {Z : Nat → Int × Int} {a K : Nat} (h : sR Z K a = false) : mR Z K a = -1 := Classical.byContradiction fun e => by
  have := (sR_eq Z a K).2 e; rw [h] at this; cases this
set_option maxRecDepth 100000 in
set_option maxHeartbeats 4000000 in
theorem isMat_any (n m k c p cp : Nat) (A B : Option Addr) (E Z : Nat → Int × Int) (v : Bool) (w : World) (h : Prs w A k E) (hv : VG n m k E) (hz : Prs w B p Z) (hp : p ≤ 9000000000000000000) (hvv : v = true ↔ MatP E k Z p) :
    Calls Try.prog 18 #[.int .i64 n, .int .i64 m, .slice A k c, .slice B p cp] w fun e w' => e = .returned (.bool v) ∧ Below w.heap.size w w' := by
  have hn := hv.n1
  have hm := hv.m1
  have hk := hv.k2
  have mk1 := make_bools n (by omega)
  have mk2 := make_bools m (by omega)
  have HH := Lib.hid h
  have HZ := Lib.hid hz
  have HV := Lib.hid hv
  have HVV := Lib.hid hvv
  clear h hz hv hvv
  go_enter Try.func18, Try.ntmps18
  go_upto_region 1 with fail
  go_cut [9, 10] from 12 to 15 (fun x y wx => ∃ gA gB, x = .slice (some ⟨gA, 0, none⟩) n n ∧ y = .slice (some ⟨gB, 0, none⟩) m m ∧ wx.heap[gA]? = some (.cells (madeCells #[.bool false] n) 4) ∧ wx.heap[gB]? = some (.cells (madeCells #[.bool false] m) 4) ∧ Below w.heap.size w wx ∧ w.heap.size ≤ gA ∧ w.heap.size ≤ gB ∧ gA ≠ gB)
  case first =>
    clear HH HZ HV HVV
    go_region
    all_goals
      go_wp2_with fail
      go_meet
    all_goals
      first
        | exact ⟨w.heap.size, w.heap.size + 1, rfl, rfl, (al2 w _ _).1, (al2 w _ _).2.1, (al2 w _ _).2.2.drew, Nat.le_refl _, Nat.le_succ _, by omega⟩
        | exact ⟨w.heap.size + 1, w.heap.size, rfl, rfl, (al2 w _ _).2.1, (al2 w _ _).1, (al2 w _ _).2.2.drew, Nat.le_succ _, Nat.le_refl _, by omega⟩
  case rest =>
    obtain ⟨gA, gB, rfl, rfl, eA, eB, bx, lA, lB, hAB⟩ := hcut
    have hRA : wc.rowIs gA 4 n (bvals (sL Z 0)) := row_of_made eA
    have hRB : wc.rowIs gB 4 m (bvals (sR Z 0)) := row_of_made eB
    clear mk1 mk2 eA eB
    go_wp2_with fail
    go_loopw [11] (fun i wr => ∃ K : Nat, K ≤ p ∧ i = .int .i64 K ∧ MatP E k Z K ∧ wr.rowIs gA 4 n (bvals (sL Z K)) ∧ wr.rowIs gB 4 m (bvals (sR Z K)) ∧ Below w.heap.size w wr) (fun i _ => p - (intOf i).toNat)
    case atStart => exact ⟨0, Nat.zero_le _, rfl, ⟨fun _ h => absurd h (Nat.not_lt_zero _), fun _ _ _ h => absurd h (Nat.not_lt_zero _)⟩, hRA, hRB, bx⟩
    case round =>
      clear hRA hRB bx
      obtain ⟨K, hK, rfl, hMP, hRA, hRB, hB⟩ := hrel
      by_cases hlt : K < p
      · obtain ⟨bz, off, rfl, hbl, hcz⟩ := (HZ.out) (by omega)
        have hbz := hbl
        obtain ⟨x0', x1'⟩ := hcz K hlt
        have x0 := (hB.cell (p := ⟨bz, off + K * 2, none⟩) hbl).trans x0'
        have x1 := (hB.cell (p := ⟨bz, off + K * 2 + 1, none⟩) hbl).trans x1'
        clear hcz x0' x1'
        have hnA : Hid (bz ≠ gA ∧ bz ≠ gB) := Lib.hid ⟨by omega, by omega⟩
        have hwrap : IntKind.i64.wrap ((K : Int) + 1) = (K : Int) + 1 := IntWalk.i64_in _ (by omega)
        obtain ⟨pz, hpz⟩ : ∃ pz, pz = Z K := ⟨_, rfl⟩
        rw [← hpz] at x0 x1
        obtain ⟨y1, y2⟩ := pz
        replace x0 : wr.cell? ⟨bz, off + K * 2, none⟩ = some (.int .i64 y1) := x0
        replace x1 : wr.cell? ⟨bz, off + K * 2 + 1, none⟩ = some (.int .i64 y2) := x1
        by_cases hin : ∃ e, e < k ∧ E e = Z K
        · have HAS := Lib.hid (rhas_any A k c E y1 y2 true wr (HH.out.below hB) hk ⟨fun _ => by obtain ⟨e, h1, h2⟩ := hin; exact ⟨e, h1, by rw [h2, ← hpz]⟩, fun _ => rfl⟩)
          have hIn : InE n m (y1, y2) := by obtain ⟨e, h1, h2⟩ := hin; rw [hpz, ← h2]; exact HV.out.ran e h1
          obtain ⟨⟨g1, g2⟩, g3, g4⟩ := hIn
          replace g1 : 0 ≤ y1 := g1
          replace g2 : y1 < n := g2
          replace g3 : 0 ≤ y2 := g3
          replace g4 : y2 < m := g4
          obtain ⟨a, rfl⟩ := Int.eq_ofNat_of_zero_le g1
          obtain ⟨b, rfl⟩ := Int.eq_ofNat_of_zero_le g3
          have ha : a < n := by omega
          have hb : b < m := by omega
          clear g1 g2 g3 g4
          have HE := Lib.hid hpz
          have HIN := Lib.hid hin
          have HMP := Lib.hid hMP
          clear hpz hin hMP
          go_upto_region 5 with fail
          go_wp2_with fail
          refine HAS.out.mono ?_; rintro e w2 ⟨rfl, b2⟩
          have hRA2 := row_below hRA b2
          have hRB2 := row_below hRB b2
          have hB2 := below_next hB b2
          have hbl2 : bz < wr.heap.size := by have := hB.size; omega
          have v0 := (b2.cell (p := ⟨bz, off + K * 2, none⟩) hbl2).trans x0
          have v1 := (b2.cell (p := ⟨bz, off + K * 2 + 1, none⟩) hbl2).trans x1
          clear hRA hRB hB b2 x0 x1 HAS
          have l0 : w2.cell? ⟨gA, a, none⟩ = some (.bool (sL Z K a)) := hRA2.cell ha
          have l1 : w2.cell? ⟨gB, b, none⟩ = some (.bool (sR Z K b)) := hRB2.cell hb
          cases hL : sL Z K a with
          | true =>
            rw [hL] at l0
            have hv1 : v = false := by
              cases hc : v with
              | false => rfl
              | true => exact absurd (HVV.out.1 hc) (mat_no_l HV.out hlt HE.out.symm ((sL_eq Z a K).1 hL))
            subst hv1
            clear hL
            go_wp2_with fail
            go_ret
            exact ⟨rfl, hB2⟩
          | false =>
            rw [hL] at l0
            cases hR : sR Z K b with
            | true =>
              rw [hR] at l1
              have hv1 : v = false := by
                cases hc : v with
                | false => rfl
                | true => exact absurd (HVV.out.1 hc) (mat_no_r HV.out hlt HE.out.symm ((sR_eq Z b K).1 hR))
              subst hv1
              clear hL hR
              go_wp2_with fail
              go_ret
              exact ⟨rfl, hB2⟩
            | false =>
              rw [hR] at l1
              have HM := Lib.hid (mat_next HMP.out HE.out.symm HIN.out (sL_no hL) (sR_no hR))
              have e1 : Hid (sL Z (K + 1) = mark (sL Z K) a) := by show mark (sL Z K) (Z K).1.toNat = _; rw [← HE.out]; rfl
              have e2 : Hid (sR Z (K + 1) = mark (sR Z K) b) := by show mark (sR Z K) (Z K).2.toNat = _; rw [← HE.out]; rfl
              have hA3 := row_mark (k := a) hRA2
              have hB3 := hRB2.of_block (Below.heap_setCell w2 ⟨gA, a, none⟩ (.bool true) gB (by exact fun e => hAB e.symm))
              have hA4 := hA3.of_block (Below.heap_setCell (w2.setCell ⟨gA, a, none⟩ (.bool true)) ⟨gB, b, none⟩ (.bool true) gA (by exact hAB))
              have hB4 := row_mark (k := b) hB3
              have hBn := (hB2.setCell (p := ⟨gA, a, none⟩) (by exact lA) (.bool true)).setCell (p := ⟨gB, b, none⟩) (by exact lB) (.bool true)
              have f0 := hRA2.frozen a
              have f1 := hB3.frozen b
              clear hL hR
              obtain ⟨hne1, hne2⟩ := hnA.out
              go_wp2_with fail
              go_roundw
              case rel => exact ⟨K + 1, hlt, by go_num, HM.out, by rw [e1.out]; exact hA4, by rw [e2.out]; exact hB4, hBn⟩
              case measure => simp [intOf]; omega
        · have HAS := Lib.hid (rhas_any A k c E y1 y2 false wr (HH.out.below hB) hk ⟨fun h => (by cases h), fun ⟨e, h1, h2⟩ => absurd ⟨e, h1, by rw [h2, ← hpz]⟩ hin⟩)
          have hv1 : v = false := by
            cases hc : v with
            | false => rfl
            | true => exact absurd (HVV.out.1 hc) (mat_no_e hlt hin)
          subst hv1
          clear hin hpz hMP
          go_upto_region 5 with fail
          go_wp2_with fail
          refine HAS.out.mono ?_; rintro e w2 ⟨rfl, b2⟩
          go_wp2_with fail
          go_ret
          exact ⟨rfl, below_next hB b2⟩
      · obtain rfl : K = p := by omega
        have hv1 := HVV.out.2 hMP
        subst hv1
        go_wp2_with fail
        go_ret
        exact ⟨rfl, hB⟩
end Go.Proofs.Ytmafnncpdccfdaa
