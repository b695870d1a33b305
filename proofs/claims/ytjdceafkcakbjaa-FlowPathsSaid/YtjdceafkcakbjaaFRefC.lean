/- The reference's Flow. -/
import Derived.Test.YtjdceafkcakbjaaFRefB
namespace Go.Proofs.Ytjdceafkcakbjaa
open Go.RowKit
theorem netAt_drewN {w : World} {p m c : Nat} {N : Int} {A : Option Addr} (h : NetAt w p N A m c) (n : Nat) : NetAt (w.drewN n) p N A m c := h
theorem refFlow_len (N s t : Int) (m ml c cl : Nat) (A L : Option Addr) (w : World) (hne : ml ≠ m) :
    Calls Try.prog 18 #[.agg #[.int .i64 N, .slice A m c], .int .i64 s, .int .i64 t, .slice L ml cl] w fun e w' => e = .returned (.bool false) ∧ Below w.heap.size w w' := by
  have n0 := netAt_new w N A m c
  have c0 := n0.c0
  have c1 := n0.c1
  have hqm : ((ml : Int) != (m : Int)) = true := bne_iff_ne.2 (by omega)
  clear hne
  go_enter Try.func18, Try.ntmps18
  go_wp2_with fail
  go_ret
  exact ⟨rfl, below_new _ _⟩
set_option maxHeartbeats 4000000 in
theorem refFlow_rng (n s t m c cl J : Nat) (A L : Option Addr) (E : Nat → EdgeD) (g : Nat → Int) (w : World) (h : Edges w A m E) (hv : VNet n m E) (hL : Ints w L m g) (hJ : J < m) (hg : ∀ i, i < J → 0 ≤ g i ∧ g i ≤ (E i).c) (hb : ¬ (0 ≤ g J ∧ g J ≤ (E J).c)) :
    Calls Try.prog 18 #[.agg #[.int .i64 n, .slice A m c], .int .i64 s, .int .i64 t, .slice L m cl] w fun e w' => e = .returned (.bool false) ∧ Below w.heap.size w w' := by
  have HBd := Lib.hid hb; clear hb
  have HH := Lib.hid h; clear h
  have HL := Lib.hid hL; clear hL
  have hm := hv.2.2.1
  have HV := Lib.hid hv; clear hv
  have HG := Lib.hid hg; clear hg
  have n0 := netAt_new w n A m c
  have b0 := below_new w (.cells #[.int .i64 n, .slice A m c] 24)
  have c0 := n0.c0
  have c1 := n0.c1
  have hqm : ((m : Int) != (m : Int)) = false := by simp
  go_enter Try.func18, Try.ntmps18
  go_wp2_with fail
  clear c0 c1
  go_loopw [9] (fun i wr => ∃ K : Nat, K ≤ J ∧ i = .int .i64 K ∧ NetAt wr w.heap.size n A m c ∧ Below w.heap.size w wr) (fun i _ => m - (intOf i).toNat)
  case atStart => exact ⟨0, by omega, rfl, n0, b0⟩
  case round =>
    clear n0 b0
    obtain ⟨K, hK, rfl, hn, hB⟩ := hrel
    have k1 := hn.c1
    have hlt : K < m := by omega
    obtain ⟨b, off, rfl, hbl, hcz⟩ := (HH.out.below hB) (by omega)
    obtain ⟨_, _, x2⟩ := hcz K hlt
    obtain ⟨bL, oL, rfl, hbL0, hcL⟩ := HL.out (by omega)
    have xL := (hB.cell (p := ⟨bL, oL + K, none⟩) hbL0).trans (hcL K hlt)
    clear hcz hcL
    have hwrap : IntKind.i64.wrap ((K : Int) + 1) = (K : Int) + 1 := IntWalk.i64_in _ (by omega)

    by_cases hKJ : K < J
    · have hgk := HG.out K hKJ
      generalize (E K).c = ec at *
      generalize g K = gk at *
      have q1 : decide (gk < 0) = false := decide_eq_false (by omega)
      have q2 : decide (ec < gk) = false := decide_eq_false (by omega)
      go_wp2_with fail
      go_quiet (fail)
      go_wp2_with fail
      go_roundw
      case rel => exact ⟨K + 1, by omega, by go_num, netAt_drewN hn _, below_drewN hB _⟩
      case measure => simp [intOf]; omega
    · obtain rfl : K = J := by omega
      have hbk := HBd.out
      generalize (E K).c = ec at *
      generalize g K = gk at *
      by_cases hneg : gk < 0
      · have q1 : decide (gk < 0) = true := decide_eq_true hneg
        clear hbk HBd HG
        go_wp2_with fail
        go_quiet (fail)
        go_wp2_with fail
        go_ret
        exact ⟨rfl, below_drewN hB _⟩
      · have q1 : decide (gk < 0) = false := decide_eq_false hneg
        have q2 : decide (ec < gk) = true := decide_eq_true (by omega)
        clear hbk HBd HG
        go_wp2_with fail
        go_quiet (fail)
        go_wp2_with fail
        go_ret
        exact ⟨rfl, below_drewN hB _⟩
set_option maxRecDepth 100000 in
set_option maxHeartbeats 4000000 in
theorem refFlow_bal (n s t m c cl J : Nat) (v : Bool) (A L : Option Addr) (E : Nat → EdgeD) (g : Nat → Int) (w : World) (h : Edges w A m E) (hv : VNet n m E) (hL : Ints w L m g) (hg : ∀ i, i < m → 0 ≤ g i ∧ g i ≤ (E i).c) (hJ : J ≤ n)
    (hz : ∀ a, a < J → (netOf n m E).bal g a = 0 ∨ a = s ∨ a = t) (hb : (v = true ∧ J = n) ∨ (v = false ∧ J < n ∧ (netOf n m E).bal g J ≠ 0 ∧ J ≠ s ∧ J ≠ t)) :
    Calls Try.prog 18 #[.agg #[.int .i64 n, .slice A m c], .int .i64 s, .int .i64 t, .slice L m cl] w fun e w' => e = .returned (.bool v) ∧ Below w.heap.size w w' := by
  have hn5 := hv.2.1
  have HBd := Lib.hid hb; clear hb
  have HZ := Lib.hid hz; clear hz
  have HH := Lib.hid h; clear h
  have HL := Lib.hid hL; clear hL
  have hm := hv.2.2.1
  have HV := Lib.hid hv; clear hv
  have HG := Lib.hid hg; clear hg
  have n0 := netAt_new w n A m c
  have b0 := below_new w (.cells #[.int .i64 n, .slice A m c] 24)
  have c0 := n0.c0
  have c1 := n0.c1
  have hqm : ((m : Int) != (m : Int)) = false := by simp
  go_enter Try.func18, Try.ntmps18
  go_wp2_with fail
  clear c0 c1
  go_loopw [9] (fun i wr => ∃ K : Nat, K ≤ m ∧ i = .int .i64 K ∧ NetAt wr w.heap.size n A m c ∧ Below w.heap.size w wr) (fun i _ => m - (intOf i).toNat)
  case atStart => exact ⟨0, by omega, rfl, n0, b0⟩
  case round =>
    clear n0 b0
    obtain ⟨K, hK, rfl, hn, hB⟩ := hrel
    have k1 := hn.c1
    by_cases hlt : K < m
    · have hgk := HG.out K hlt
      obtain ⟨b, off, rfl, hbl, hcz⟩ := (HH.out.below hB) (by omega)
      obtain ⟨_, _, x2⟩ := hcz K hlt
      obtain ⟨bL, oL, rfl, hbL0, hcL⟩ := HL.out (by omega)
      have xL := (hB.cell (p := ⟨bL, oL + K, none⟩) hbL0).trans (hcL K hlt)
      clear hcz hcL
      have hwrap : IntKind.i64.wrap ((K : Int) + 1) = (K : Int) + 1 := IntWalk.i64_in _ (by omega)
      generalize (E K).c = ec at *
      generalize g K = gk at *
      have q1 : decide (gk < 0) = false := decide_eq_false (by omega)
      have q2 : decide (ec < gk) = false := decide_eq_false (by omega)
      go_wp2_with fail
      go_quiet (fail)
      go_wp2_with fail
      go_roundw
      case rel => exact ⟨K + 1, by omega, by go_num, netAt_drewN hn _, below_drewN hB _⟩
      case measure => simp [intOf]; omega
    · obtain rfl : K = m := by omega
      have hbal : Hid (∀ (u : World) (a : Nat), Below w.heap.size w u → Calls Try.prog 50 #[.agg #[.int .i64 n, .slice A K c], .slice L K cl, .int .i64 a] u fun e w' => e = .returned (.int .i64 ((netOf n K E).bal g a)) ∧ Below u.heap.size u w') := fun u a hu =>
        balance_any n K c cl a A L E g u (HH.out.below hu) HV.out (HL.out.below hu) (fun i hi => ⟨(HG.out i hi).1, Int.le_trans (HG.out i hi).2 (net_c HV.out hi)⟩)
      clear HH HL HG HV k1
      generalize (netOf n K E).bal g = S at *
      go_wp2_with fail
      go_loopw [10] (fun i wq => ∃ I : Nat, I ≤ J ∧ i = .int .i64 I ∧ NetAt wq w.heap.size n A K c ∧ Below w.heap.size w wq) (fun i _ => n - (intOf i).toNat)
      case atStart => exact ⟨0, by omega, rfl, hn, hB⟩
      case round =>
        clear hn hB
        obtain ⟨I, hI, rfl, hn, hB⟩ := hrel
        have k0 := hn.c0
        have k1 := hn.c1
        have hwrap : IntKind.i64.wrap ((I : Int) + 1) = (I : Int) + 1 := IntWalk.i64_in _ (by omega)
        have hcl := Lib.hid (hbal.out wr I hB)
        by_cases hIJ : I < J
        · have hzz := HZ.out I hIJ
          have hIn : I < n := by omega
          by_cases hs : I = s
          · have q5 : ((I : Int) != (s : Int)) = false := by rw [hs]; simp
            clear hzz hs
            go_wp2_with fail
            go_roundw
            case rel => exact ⟨I + 1, by omega, by go_num, hn, hB⟩
            case measure => simp [intOf]; omega
          · have q5 : ((I : Int) != (s : Int)) = true := bne_iff_ne.2 (by omega)
            by_cases ht : I = t
            · have q6 : ((I : Int) != (t : Int)) = false := by rw [ht]; simp
              clear hzz hs ht
              go_wp2_with fail
              go_roundw
              case rel => exact ⟨I + 1, by omega, by go_num, hn, hB⟩
              case measure => simp [intOf]; omega
            · have q6 : ((I : Int) != (t : Int)) = true := bne_iff_ne.2 (by omega)
              have hx : S I = 0 := hzz.elim id (fun h1 => h1.elim (fun h2 => absurd h2 hs) (fun h2 => absurd h2 ht))
              rw [hx] at hcl
              clear hzz hs ht hx
              go_wp2_with fail
              refine hcl.out.mono ?_; rintro e w2 ⟨rfl, b2⟩
              have n2 := hn.below b2
              have B2 := below_next hB b2
              clear hn hB b2 hcl k0 k1
              go_wp2_with fail
              go_roundw
              case rel => exact ⟨I + 1, by omega, by go_num, n2, B2⟩
              case measure => simp [intOf]; omega
        · obtain rfl : I = J := by omega
          rcases HBd.out with ⟨rfl, hx⟩ | ⟨rfl, hx, h1, h2, h3⟩
          · have q3 : n ≤ I := by omega
            clear hx
            go_wp2_with fail
            go_ret
            exact ⟨rfl, hB⟩
          · clear HBd HZ
            have q4 : (S I != 0) = true := bne_iff_ne.2 h1
            have q5 : ((I : Int) != (s : Int)) = true := bne_iff_ne.2 (by omega)
            have q6 : ((I : Int) != (t : Int)) = true := bne_iff_ne.2 (by omega)
            clear h1 h2 h3
            go_wp2_with fail
            refine hcl.out.mono ?_; rintro e w2 ⟨rfl, b2⟩
            have B2 := below_next hB b2
            go_wp2_with fail
            go_ret
            exact ⟨rfl, B2⟩
end Go.Proofs.Ytjdceafkcakbjaa
