/- isFlow. -/
import Derived.Test.YtjdceafkcakbjaaFCutK
namespace Go.Proofs.Ytjdceafkcakbjaa
open Go.RowKit
theorem isFlow_len (N s t : Int) (m ml c cl : Nat) (A L : Option Addr) (w : World) (hne : ml ≠ m) :
    Calls Try.prog 40 #[.agg #[.int .i64 N, .slice A m c], .int .i64 s, .int .i64 t, .slice L ml cl] w fun e w' => e = .returned (.bool false) ∧ Below w.heap.size w w' := by
  have n0 := netAt_new w N A m c
  have c0 := n0.c0
  have c1 := n0.c1
  have hqm : ((ml : Int) != (m : Int)) = true := bne_iff_ne.2 (by omega)
  clear hne
  go_enter Try.func40, Try.ntmps40
  go_wp2_with fail
  go_ret
  exact ⟨rfl, below_new _ _⟩
set_option maxHeartbeats 4000000 in
theorem isFlow_rng (n s t m c cl J : Nat) (A L : Option Addr) (E : Nat → EdgeD) (g : Nat → Int) (w : World) (h : Edges w A m E) (hv : VNet n m E) (hL : Ints w L m g) (hJ : J < m) (hg : ∀ i, i < J → 0 ≤ g i ∧ g i ≤ (E i).c) (hb : ¬ (0 ≤ g J ∧ g J ≤ (E J).c)) :
    Calls Try.prog 40 #[.agg #[.int .i64 n, .slice A m c], .int .i64 s, .int .i64 t, .slice L m cl] w fun e w' => e = .returned (.bool false) ∧ Below w.heap.size w w' := by
  have HBd := Lib.hid hb; clear hb
  have HH := Lib.hid h; clear h
  have HL := Lib.hid hL; clear hL
  have hm := hv.2.2.1
  have HV := Lib.hid hv; clear hv
  have HG := Lib.hid hg; clear hg
  have n0 := netAt_new w n A m c
  have b0 := below_new w (.cells #[.int .i64 n, .slice A m c] 24)
  have c0 := n0.c0
  have c1 := n0.c1
  have hqm : ((m : Int) != (m : Int)) = false := by simp
  go_enter Try.func40, Try.ntmps40
  go_wp2_with fail
  clear c0 c1
  go_loopw [9, 10, 21] (fun _ _ i wr => ∃ K : Nat, K ≤ J ∧ i = .int .i64 K ∧ NetAt wr w.heap.size n A m c ∧ Below w.heap.size w wr) (fun _ _ i _ => m - (intOf i).toNat)
  case atStart => exact ⟨0, by omega, rfl, n0, b0⟩
  case round =>
    clear n0 b0
    obtain ⟨K, hK, rfl, hn, hB⟩ := hrel
    have k1 := hn.c1
    have hlt : K < m := by omega
    obtain ⟨b, off, rfl, hbl, hcz⟩ := (HH.out.below hB) (by omega)
    obtain ⟨_, _, x2⟩ := hcz K hlt
    obtain ⟨bL, oL, rfl, hbL0, hcL⟩ := HL.out (by omega)
    have xL := (hB.cell (p := ⟨bL, oL + K, none⟩) hbL0).trans (hcL K hlt)
    clear hcz hcL
    have hwrap : IntKind.i64.wrap ((K : Int) + 1) = (K : Int) + 1 := IntWalk.i64_in _ (by omega)

    by_cases hKJ : K < J
    · have hgk := HG.out K hKJ
      generalize (E K).c = ec at *
      generalize g K = gk at *
      have q1 : decide (gk < 0) = false := decide_eq_false (by omega)
      have q2 : decide (ec < gk) = false := decide_eq_false (by omega)
      go_wp2_with fail
      go_roundw
      case rel => exact ⟨K + 1, by omega, by go_num, hn, hB⟩
      case measure => simp [intOf]; omega
    · obtain rfl : K = J := by omega
      have hbk := HBd.out
      generalize (E K).c = ec at *
      generalize g K = gk at *
      by_cases hneg : gk < 0
      · have q1 : decide (gk < 0) = true := decide_eq_true hneg
        clear hbk HBd HG
        go_wp2_with fail
        go_ret
        exact ⟨rfl, hB⟩
      · have q1 : decide (gk < 0) = false := decide_eq_false hneg
        have q2 : decide (ec < gk) = true := decide_eq_true (by omega)
        clear hbk HBd HG
        go_wp2_with fail
        go_ret
        exact ⟨rfl, hB⟩
theorem net_c {n m : Nat} {E : Nat → EdgeD} (h : VNet n m E) {i : Nat} (hi : i < m) : (E i).c ≤ 1125899906842624 := (h.2.2.2 i hi).2.2
set_option maxRecDepth 100000 in
set_option maxHeartbeats 4000000 in
theorem isFlow_bal (n s t m c cl J : Nat) (v : Bool) (A L : Option Addr) (E : Nat → EdgeD) (g : Nat → Int) (w : World) (h : Edges w A m E) (hv : VNet n m E) (hL : Ints w L m g) (hg : ∀ i, i < m → 0 ≤ g i ∧ g i ≤ (E i).c) (hJ : J ≤ n)
    (hz : ∀ a, a < J → (netOf n m E).bal g a = 0 ∨ a = s ∨ a = t) (hb : (v = true ∧ J = n) ∨ (v = false ∧ J < n ∧ (netOf n m E).bal g J ≠ 0 ∧ J ≠ s ∧ J ≠ t)) :
    Calls Try.prog 40 #[.agg #[.int .i64 n, .slice A m c], .int .i64 s, .int .i64 t, .slice L m cl] w fun e w' => e = .returned (.bool v) ∧ Below w.heap.size w w' := by
  have hn5 := hv.2.1
  have HBd := Lib.hid hb; clear hb
  have HZ := Lib.hid hz; clear hz
  have HH := Lib.hid h; clear h
  have HL := Lib.hid hL; clear hL
  have hm := hv.2.2.1
  have HV := Lib.hid hv; clear hv
  have HG := Lib.hid hg; clear hg
  have n0 := netAt_new w n A m c
  have b0 := below_new w (.cells #[.int .i64 n, .slice A m c] 24)
  have c0 := n0.c0
  have c1 := n0.c1
  have hqm : ((m : Int) != (m : Int)) = false := by simp
  go_enter Try.func40, Try.ntmps40
  go_wp2_with fail
  clear c0 c1
  go_loopw [9, 10, 21] (fun _ _ i wr => ∃ K : Nat, K ≤ m ∧ i = .int .i64 K ∧ NetAt wr w.heap.size n A m c ∧ Below w.heap.size w wr) (fun _ _ i _ => m - (intOf i).toNat)
  case atStart => exact ⟨0, by omega, rfl, n0, b0⟩
  case round =>
    clear n0 b0
    obtain ⟨K, hK, rfl, hn, hB⟩ := hrel
    have k1 := hn.c1
    by_cases hlt : K < m
    · have hgk := HG.out K hlt
      obtain ⟨b, off, rfl, hbl, hcz⟩ := (HH.out.below hB) (by omega)
      obtain ⟨_, _, x2⟩ := hcz K hlt
      obtain ⟨bL, oL, rfl, hbL0, hcL⟩ := HL.out (by omega)
      have xL := (hB.cell (p := ⟨bL, oL + K, none⟩) hbL0).trans (hcL K hlt)
      clear hcz hcL
      have hwrap : IntKind.i64.wrap ((K : Int) + 1) = (K : Int) + 1 := IntWalk.i64_in _ (by omega)
      generalize (E K).c = ec at *
      generalize g K = gk at *
      have q1 : decide (gk < 0) = false := decide_eq_false (by omega)
      have q2 : decide (ec < gk) = false := decide_eq_false (by omega)
      go_wp2_with fail
      go_roundw
      case rel => exact ⟨K + 1, by omega, by go_num, hn, hB⟩
      case measure => simp [intOf]; omega
    · obtain rfl : K = m := by omega
      have k0 := hn.c0
      have q0 : decide ((K : Int) < (K : Int)) = false := decide_eq_false (by omega)
      have hsur := Lib.hid (surpl_any n K c cl A L E g wr (HH.out.below hB) HV.out (HL.out.below hB) (fun i hi => ⟨(HG.out i hi).1, Int.le_trans (HG.out i hi).2 (net_c HV.out hi)⟩))
      go_wp2_with fail
      refine hsur.out.mono ?_; rintro e w1 ⟨gS, rfl, hR, hge, b1⟩
      have B1 := below_next hB b1
      clear k0 k1 hn hB b1 hsur HH HL HG
      obtain ⟨S, hS⟩ : ∃ S, S = (netOf n K E).bal g := ⟨_, rfl⟩
      rw [← hS] at hR HZ HBd
      clear hS
      go_wp2_with fail
      go_loopw [11, 12, 43] (fun _ _ i wq => ∃ I : Nat, I ≤ J ∧ i = .int .i64 I ∧ w1 = wq) (fun _ _ i _ => n - (intOf i).toNat)
      case atStart => exact ⟨0, by omega, rfl, rfl⟩
      case round =>
        obtain ⟨I, hI, rfl, rfl⟩ := hrel
        have hwrap : IntKind.i64.wrap ((I : Int) + 1) = (I : Int) + 1 := IntWalk.i64_in _ (by omega)
        by_cases hIJ : I < J
        · have z0 : w1.cell? ⟨gS, I, none⟩ = some (.int .i64 (S I)) := hR.cell (by omega)
          have hzz := HZ.out I hIJ
          have q3 : decide ((I : Int) < (n : Int)) = true := decide_eq_true (by omega)
          generalize S I = x at *
          by_cases hx : x = 0
          · have q4 : (x != 0) = false := by rw [hx]; rfl
            clear hzz hx
            go_wp2_with fail
            go_roundw
            case rel => exact ⟨I + 1, by omega, by go_num, trivial⟩
            case measure => simp [intOf]; omega
          · have q4 : (x != 0) = true := bne_iff_ne.2 hx
            by_cases hs : I = s
            · have q5 : ((I : Int) != (s : Int)) = false := by rw [hs]; simp
              clear hzz hx hs
              go_wp2_with fail
              go_roundw
              case rel => exact ⟨I + 1, by omega, by go_num, trivial⟩
              case measure => simp [intOf]; omega
            · have q5 : ((I : Int) != (s : Int)) = true := bne_iff_ne.2 (by omega)
              have ht : I = t := hzz.elim (fun h1 => absurd h1 hx) (fun h1 => h1.elim (fun h2 => absurd h2 hs) id)
              have q6 : ((I : Int) != (t : Int)) = false := by rw [ht]; simp
              clear hzz hx hs ht
              go_wp2_with fail
              go_roundw
              case rel => exact ⟨I + 1, by omega, by go_num, trivial⟩
              case measure => simp [intOf]; omega
        · obtain rfl : I = J := by omega
          rcases HBd.out with ⟨rfl, hx⟩ | ⟨rfl, hx, h1, h2, h3⟩
          · have q3 : n ≤ I := by omega
            clear hx
            go_wp2_with fail
            go_ret
            exact ⟨rfl, B1⟩
          · have z0 : w1.cell? ⟨gS, I, none⟩ = some (.int .i64 (S I)) := hR.cell hx
            have q3 : decide ((I : Int) < (n : Int)) = true := decide_eq_true (by omega)
            clear HBd HZ
            generalize S I = x at *
            have q4 : (x != 0) = true := bne_iff_ne.2 h1
            have q5 : ((I : Int) != (s : Int)) = true := bne_iff_ne.2 (by omega)
            have q6 : ((I : Int) != (t : Int)) = true := bne_iff_ne.2 (by omega)
            clear h1 h2 h3
            go_wp2_with fail
            go_ret
            exact ⟨rfl, B1⟩
end Go.Proofs.Ytjdceafkcakbjaa
