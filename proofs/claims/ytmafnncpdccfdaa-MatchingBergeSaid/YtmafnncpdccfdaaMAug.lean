/- The contract of Augment. -/
import Derived.Test.YtmafnncpdccfdaaKAu
import Derived.Test.YtmafnncpdccfdaaMTop
namespace Go.Proofs.Ytmafnncpdccfdaa
open Go.RowKit
theorem aug_err (N M : Int) (A B : Option Addr) (k c p cp : Nat) (E : Nat → Int × Int) (w : World) (h : Prs w A k E) (hv : ¬ VG N M k E) :
    Calls Try.prog 23 #[.int .i64 N, .int .i64 M, .slice A k c, .slice B p cp] w fun e w' => e = .returned (.tuple #[.slice none 0 0, .int .i64 1]) ∧ Below w.heap.size w w' := by
  have HV := Lib.hid hv; clear hv
  have HH := Lib.hid h; clear h
  go_enter Try.func23, Try.ntmps23
  go_wp2_with fail
  refine (gvalid_no _ _ _ _ _ _ _ HH.out HV.out).mono ?_; rintro e w1 ⟨rfl, b1⟩
  go_wp2_with fail
  go_ret2
  exact ⟨rfl, b1⟩
def AuEnd (w : World) (n k p : Nat) (E Z : Nat → Int × Int) (e : Ending) (w' : World) : Prop :=
  (¬ MatP E k Z p ∧ e = .returned (.tuple #[.slice none 0 0, .int .i64 17]) ∧ Below w.heap.size w w') ∨
  (∃ L v, MatP E k Z p ∧ AugF n k p E Z L ∧ e = .returned (.tuple #[v, .int .i64 0]) ∧ w'.ownsRow w.heap.size 47 2 v (prl L n).length (pvals (prl L n)) ∧ Below w.heap.size w w') ∨
  (MatP E k Z p ∧ (∀ Z' p', MatP E k Z' p' → p' ≤ p) ∧ e = .returned (.tuple #[.slice none 0 0, .int .i64 7]) ∧ Below w.heap.size w w')
/- what was matched is a matching -/
theorem mat_put {n m a b : Nat} {nb : Nat → List Nat} {s : Nat → Bool} {L R : Nat → Int} (h : Mat n m nb ⟨s, L, R⟩) (ha : a < n) (hb : b < m) (hab : b ∈ nb a) (hL : L a = -1) (hR : R b = -1) : Mat n m nb ⟨s, put L a (b : Int), put R b (a : Int)⟩ := by
  refine ⟨fun a' ha' => ?_, fun b' hb' => ?_, fun b' hb' _ => ?_⟩
  · show put L a (b : Int) a' = -1 ∨ ∃ c : Nat, c < m ∧ put L a (b : Int) a' = c ∧ c ∈ nb a' ∧ put R b (a : Int) c = a'
    by_cases e : a' = a
    · subst e
      exact .inr ⟨b, hb, put_same _ _ _, hab, put_same _ _ _⟩
    · rw [put_ne _ _ e]
      rcases h.l a' ha' with h1 | ⟨c, h1, h2, h3, h4⟩
      · exact .inl h1
      · have h4 : R c = a' := h4
        have hc : c ≠ b := fun hc => by rw [hc, hR] at h4; omega
        exact .inr ⟨c, h1, h2, h3, by rw [put_ne _ _ hc]; exact h4⟩
  · show put R b (a : Int) b' = -1 ∨ ∃ c : Nat, c < n ∧ put R b (a : Int) b' = c
    by_cases e : b' = b
    · subst e
      exact .inr ⟨a, ha, put_same _ _ _⟩
    · rw [put_ne _ _ e]
      exact h.w b' hb'
  · show put R b (a : Int) b' = -1 ∨ ∃ c : Nat, c < n ∧ put R b (a : Int) b' = c ∧ put L a (b : Int) c = b'
    by_cases e : b' = b
    · subst e
      exact .inr ⟨a, ha, put_same _ _ _, put_same _ _ _⟩
    · rw [put_ne _ _ e]
      rcases Mat.r h b' hb' with h1 | ⟨c, h1, h2, h3⟩
      · exact .inl h1
      · have h3 : L c = b' := h3
        have hc : c ≠ a := fun hc => by rw [hc, hL] at h3; omega
        exact .inr ⟨c, h1, h2, by rw [put_ne _ _ hc]; exact h3⟩
theorem matM {n m k : Nat} {E Z : Nat → Int × Int} (hv : VG n m k E) : ∀ {p}, MatP E k Z p → Mat n m (nbs E k) ⟨fun _ => false, mL Z p, mR Z p⟩
  | 0, _ => ⟨fun _ _ => .inl rfl, fun _ _ => .inl rfl, fun _ _ _ => .inl rfl⟩
  | p + 1, h => by
    have ih := matM hv (h.mono (Nat.le_succ p))
    have hin := h.in_ hv (Nat.lt_succ_self p)
    obtain ⟨⟨g1, g2⟩, g3, g4⟩ := hin
    obtain ⟨e, he, hz⟩ := h.1 p (Nat.lt_succ_self p)
    have hZ : Z p = ((((Z p).1.toNat : Nat) : Int), (((Z p).2.toNat : Nat) : Int)) := Prod.ext (by show (Z p).1 = _; omega) (by show (Z p).2 = _; omega)
    refine mat_put ih (by omega) (by omega) ((nbs_iff hv _ _ k (Nat.le_refl _)).2 ⟨e, he, by rw [hz]; exact hZ⟩) ?_ ?_
    · refine Classical.byContradiction fun hc => ?_
      obtain ⟨i, hi, e⟩ := (mL_has Z _ p).1 hc
      have hi2 := (h.in_ hv (Nat.lt_succ_of_lt hi)).1.1
      exact (h.2 i p hi (Nat.lt_succ_self p)).1 (by omega)
    · refine Classical.byContradiction fun hc => ?_
      obtain ⟨i, hi, e⟩ := (mR_has Z _ p).1 hc
      have hi2 := (h.in_ hv (Nat.lt_succ_of_lt hi)).2.1
      exact (h.2 i p hi (Nat.lt_succ_self p)).2 (by omega)
set_option maxRecDepth 100000 in
set_option maxHeartbeats 4000000 in
theorem aug_any (n m k c p cp : Nat) (A B : Option Addr) (E Z : Nat → Int × Int) (w : World) (h : Prs w A k E) (hv : VG n m k E) (hz : Prs w B p Z) (hwf : ∀ i, i < p → WfP (Z i)) (hp : p ≤ 9000000000000000000) :
    Calls Try.prog 23 #[.int .i64 n, .int .i64 m, .slice A k c, .slice B p cp] w (AuEnd w n k p E Z) := by
  have hn := hv.n1
  have hm := hv.m1
  have hnb : ∀ a b, b ∈ nbs E k a → b < m := vg_nb hv
  have hlen : ∀ a, (nbs E k a).length ≤ 2000 := vg_len hv
  have mk := make_bools m (by omega)
  have HV := Lib.hid hv; clear hv
  have HH := Lib.hid h; clear h
  have HZ := Lib.hid hz; clear hz
  have HWF := Lib.hid hwf; clear hwf
  have HNB := Lib.hid hnb; clear hnb
  have HLEN := Lib.hid hlen; clear hlen
  go_enter Try.func23, Try.ntmps23
  go_wp2_with fail
  refine (gvalid_yes _ _ _ _ _ _ _ HH.out HV.out).mono ?_; rintro e w1 ⟨rfl, b1⟩
  have HM := Lib.hid (matched_any n m k c p cp A B E Z w1 (HH.out.below b1) HV.out (HZ.out.below b1) HWF.out hp)
  unfold MtEnd at HM
  go_wp2_with fail
  refine HM.out.mono ?_; rintro e w2 (⟨hMP, lim, base, gN, gL, gR, V, hlim, rfl, hG, b2⟩ | ⟨hMP, rfl, b2⟩)
  · have HMP := Lib.hid hMP
    have hMt : Mat n m (nbs E k) ⟨fun _ => false, mL Z p, mR Z p⟩ := matM HV.out hMP
    have HMT := Lib.hid hMt
    have B2 := below_next b1 b2
    obtain ⟨o7, ho7⟩ : ∃ o, o = Obj.cells #[.slice (some ⟨gN, 0, none⟩) n n, .slice (some ⟨gL, 0, none⟩) n n, .slice (some ⟨gR, 0, none⟩) m m] 55 := ⟨_, rfl⟩
    have e7 : (w2.alloc o7).heap[w2.heap.size]? = some o7 := heap_alloc_new _ _
    have hGB := hG.below (below_new w2 o7)
    have B3 := below_next B2 (below_new w2 o7)
    have n7 : w2.heap.size ≠ gL ∧ w2.heap.size ≠ gR := ⟨by have := hG.l.lt; omega, by have := hG.r.lt; omega⟩
    have hw7 : w.heap.size ≤ lim := by have := b1.size; omega
    obtain ⟨p7, hp7⟩ : ∃ p7, p7 = w2.heap.size := ⟨_, rfl⟩
    rw [ho7] at e7 hGB B3
    clear hG B2 ho7 HM hMP hMt b1 b2
    go_upto_region 4 with fail
    rw [← hp7] at e7 n7 ⊢
    generalize w2.alloc (.cells #[.slice (some ⟨gN, 0, none⟩) n n, .slice (some ⟨gL, 0, none⟩) n n, .slice (some ⟨gR, 0, none⟩) m m] 55) = w3 at *
    clear hp7
    go_wp2_with fail
    go_loopw [29] (fun i wr => ∃ K : Nat, K ≤ n ∧ i = .int .i64 K ∧ GA lim base wr n m gN gL gR (nbs E k) V (mL Z p) (mR Z p) ∧
        wr.heap[p7]? = some (.cells #[.slice (some ⟨gN, 0, none⟩) n n, .slice (some ⟨gL, 0, none⟩) n n, .slice (some ⟨gR, 0, none⟩) m m] 55 (0, 0)) ∧
        Hid (∀ a, a < K → mL Z p a = -1 → (vis (nbs E k) (m + 1) a ⟨fun _ => false, mL Z p, mR Z p⟩).1 = false) ∧ Below w.heap.size w wr) (fun i _ => n - (intOf i).toNat)
    case atStart => exact ⟨0, Nat.zero_le _, rfl, hGB, e7, Lib.hid (fun _ h => absurd h (Nat.not_lt_zero _)), B3⟩
    case round =>
      clear hGB e7 B3
      obtain ⟨K, hK, rfl, hG, e7, hno, hB⟩ := hrel
      by_cases hlt : K < n
      · have k0 : wr.cell? ⟨p7, 0, none⟩ = some (.slice (some ⟨gN, 0, none⟩) n n) := cell_of_row _ _ 0 _ _ _ e7
        have k1 : wr.cell? ⟨p7, 1, none⟩ = some (.slice (some ⟨gL, 0, none⟩) n n) := cell_of_row _ _ 1 _ _ _ e7
        have k2 : wr.cell? ⟨p7, 2, none⟩ = some (.slice (some ⟨gR, 0, none⟩) m m) := cell_of_row _ _ 2 _ _ _ e7
        have x0 : wr.cell? ⟨gL, K, none⟩ = some (.int .i64 (mL Z p K)) := hG.l.cell hlt
        have hwrap : IntKind.i64.wrap ((K : Int) + 1) = (K : Int) + 1 := IntWalk.i64_in _ (by omega)
        by_cases hL : mL Z p K = -1
        · have HC := Lib.hid (improve_new lim base n m gN gL gR (nbs E k) V ⟨fun _ => false, mL Z p, mR Z p⟩ K wr hG HLEN.out HNB.out HMT.out rfl hlt hL)
          have HRES := Lib.hid (vis_res (n := n) HNB.out (m + 1) K ⟨fun _ => false, mL Z p, mR Z p⟩ HMT.out hlt (.inl hL) (by show un (fun _ => false) m < _; rw [un_none]; omega))
          have hY : Hid ((vis (nbs E k) (m + 1) K ⟨fun _ => false, mL Z p, mR Z p⟩).1 = true → AugF n k p E Z (vis (nbs E k) (m + 1) K ⟨fun _ => false, mL Z p, mR Z p⟩).2.L) := fun hy => aug_yes HV.out HMP.out HMT.out hlt hL hy
          rw [hL] at x0
          have HE7 := Lib.hid e7
          have hpl := lt_of_block e7
          generalize hvo : vis (nbs E k) (m + 1) K ⟨fun _ => false, mL Z p, mR Z p⟩ = vo at *
          have HVO := Lib.hid hvo
          clear hG e7 hvo
          go_upto_region 9 with fail
          go_region_with (go_at_call 45; (with_reducible refine (HC.out _ (by first | exact Or.inl rfl | exact Or.inr rfl)).mono ?_); rintro e w4 ⟨rfl, hG4, b4, far4⟩)
          all_goals
            obtain ⟨r, G⟩ := vo
            cases r with
            | true =>
              have e74 := (far4 p7 hpl n7.1 n7.2).trans HE7.out
              have j0 : w4.cell? ⟨p7, 0, none⟩ = some (.slice (some ⟨gN, 0, none⟩) n n) := cell_of_row _ _ 0 _ _ _ e74
              have j1 : w4.cell? ⟨p7, 1, none⟩ = some (.slice (some ⟨gL, 0, none⟩) n n) := cell_of_row _ _ 1 _ _ _ e74
              have j2 : w4.cell? ⟨p7, 2, none⟩ = some (.slice (some ⟨gR, 0, none⟩) m m) := cell_of_row _ _ 2 _ _ _ e74
              have HF := Lib.hid (hY.out rfl)
              have B4 := hB.trans (b4.mono hw7)
              have HP := Lib.hid (pairs_any n m gL n n (some ⟨gN, 0, none⟩) (some ⟨gR, 0, none⟩) m G.L w4 hG4.l (by omega))
              unfold PairsEnd at HP
              clear k0 k1 k2 x0 hG4 far4 b4 e74 HRES hY HC HE7 HVO
              go_wp2_with fail
              refine HP.out.mono ?_; rintro e w5 ⟨v, rfl, hown, b5⟩
              have B5 := below_next B4 b5
              clear j0 j1 j2 HP
              go_wp2_with fail
              go_ret2
              exact .inr (.inl ⟨G.L, v, HMP.out, HF.out, rfl, own_mono hown (by have := B4.size; omega), B5⟩)
            | false =>
              have fl := HRES.out.no rfl
              have eL : G.L = mL Z p := fl.eL
              have eR : G.R = mR Z p := fl.eR
              have hno2 : Hid (∀ a, a < K + 1 → mL Z p a = -1 → (vis (nbs E k) (m + 1) a ⟨fun _ => false, mL Z p, mR Z p⟩).1 = false) := Lib.hid fun a ha hLa => by
                by_cases e : a = K
                · subst e; rw [HVO.out]
                · exact hno.out a (by omega) hLa
              have hG5 : GA lim base w4 n m gN gL gR (nbs E k) V (mL Z p) (mR Z p) := by rw [← eL, ← eR]; exact hG4
              have e74 := (far4 p7 hpl n7.1 n7.2).trans HE7.out
              have B4 := hB.trans (b4.mono hw7)
              clear k0 k1 k2 x0 hG4 far4 b4 HRES hY HC HE7 HVO fl hno
              go_wp2_with fail
              go_roundw
              case rel => exact ⟨K + 1, hlt, by go_num, hG5, e74, hno2, B4⟩
              case measure => simp [intOf]; omega
        · have hno2 : Hid (∀ a, a < K + 1 → mL Z p a = -1 → (vis (nbs E k) (m + 1) a ⟨fun _ => false, mL Z p, mR Z p⟩).1 = false) := Lib.hid fun a ha hLa => by
            by_cases e : a = K
            · subst e; exact absurd hLa hL
            · exact hno.out a (by omega) hLa
          have q1 : (mL Z p K == -1) = false := beq_false_of_ne hL
          have HG := Lib.hid hG
          generalize mL Z p K = y at *
          clear hL hG k0 k2 hno mk
          go_upto_region 9 with fail
          go_quiet (fail)
          have hG5 := HG.out.below (below_drewN (Below.refl wr.heap.size wr) nq)
          have e75 : (wr.drewN nq).heap[p7]? = _ := e7
          have B5 := below_drewN hB nq
          clear HG e7 hB k1 x0
          generalize wr.drewN nq = w4 at *
          go_wp2_with fail
          go_roundw
          case rel => exact ⟨K + 1, hlt, by go_num, hG5, e75, hno2, B5⟩
          case measure => simp [intOf]; omega
      · obtain rfl : K = n := by omega
        go_wp2_with fail
        go_ret2
        exact .inr (.inr ⟨HMP.out, aug_no HV.out HMP.out HMT.out hno.out, rfl, hB⟩)
  · have B2 := below_next b1 b2
    have B3 := below_next B2 (below_new w2 (.cells #[.slice none 0 0, .slice none 0 0, .slice none 0 0] 55))
    clear HM b1 b2 B2
    go_upto_region 4 with fail
    generalize w2.alloc (.cells #[.slice none 0 0, .slice none 0 0, .slice none 0 0] 55) = w3 at *
    go_wp2_with fail
    go_ret2
    exact .inl ⟨hMP, rfl, B3⟩
end Go.Proofs.Ytmafnncpdccfdaa
