/- The law MatchingBerge: the walk. -/
import Derived.Test.YtmafnncpdccfdaaMAug
import Derived.Test.YtmafnncpdccfdaaLCk
namespace Go.Proofs.Ytmafnncpdccfdaa
open Go.RowKit
theorem matP_wf {n m k p : Nat} {E Z : Nat → Int × Int} (hv : VG n m k E) (h : MatP E k Z p) : ∀ i, i < p → WfP (Z i) := fun i hi => by
  obtain ⟨e, he, hz⟩ := h.1 i hi
  rw [← hz]; exact hv.wf he
def BeP (N M : Int) (k c p cp : Nat) (A B : Option Addr) (w : World) : Prop :=
  Calls Try.prog 8 #[.int .i64 N, .int .i64 M, .slice A k c, .slice B p cp] w fun e w' => e = .returned (.bool true) ∧ Below w.heap.size w w'
set_option maxRecDepth 100000 in
set_option maxHeartbeats 4000000 in
theorem be_law (N M : Int) (k c p cp : Nat) (A B : Option Addr) (E Z : Nat → Int × Int) (w : World) (h : Prs w A k E) (hz : Prs w B p Z) : BeP N M k c p cp A B w := by
  have HH := Lib.hid h; clear h
  have HZ := Lib.hid hz; clear hz
  go_enter Try.func8, Try.ntmps8
  go_wp2_with fail
  refine (awake_any _).mono ?_; rintro e w1 ⟨rfl, b1⟩
  by_cases c1 : 30 < N
  · have q1 : decide (30 < N) = true := decide_eq_true c1
    go_wp2_with fail
    go_ret
    exact ⟨rfl, b1⟩
  have q1 : decide (30 < N) = false := decide_eq_false c1
  by_cases c2 : 30 < M
  · have q2 : decide (30 < M) = true := decide_eq_true c2
    go_wp2_with fail
    go_ret
    exact ⟨rfl, b1⟩
  have q2 : decide (30 < M) = false := decide_eq_false c2
  by_cases c3 : 400 < k
  · have q3 : decide (400 < (k : Int)) = true := decide_eq_true (by omega)
    go_wp2_with fail
    go_ret
    exact ⟨rfl, b1⟩
  have q3 : decide (400 < (k : Int)) = false := decide_eq_false (by omega)
  by_cases c4 : 400 < p
  · have q4 : decide (400 < (p : Int)) = true := decide_eq_true (by omega)
    go_wp2_with fail
    go_ret
    exact ⟨rfl, b1⟩
  have q4 : decide (400 < (p : Int)) = false := decide_eq_false (by omega)
  go_wp2_with fail
  by_cases hv : VG N M k E
  · obtain ⟨n, rfl⟩ := Int.eq_ofNat_of_zero_le hv.n0
    obtain ⟨m, rfl⟩ := Int.eq_ofNat_of_zero_le hv.m0
    have HV := Lib.hid hv; clear hv
    refine (rValid_yes n m A k c E w1 (HH.out.below b1) HV.out).mono ?_; rintro e w2 ⟨rfl, b2⟩
    have B2 := below_next b1 b2
    obtain ⟨vm, hvm⟩ : ∃ v : Bool, v = true ↔ MatP E k Z p := ⟨@decide _ (Classical.propDecidable _), @decide_eq_true_iff _ (Classical.propDecidable _)⟩
    have HM := Lib.hid (isMat_any n m k c p cp A B E Z vm w2 (HH.out.below B2) HV.out (HZ.out.below B2) (by omega) hvm)
    have HVM := Lib.hid hvm
    clear hvm b1 b2 q1 q2 q3 q4
    go_wp2_with fail
    refine HM.out.mono ?_; rintro e w3 ⟨rfl, b3⟩
    have B3 := below_next B2 b3
    clear HM b3 B2
    cases vm with
    | false =>
      go_wp2_with fail
      go_ret
      exact ⟨rfl, B3⟩
    | true =>
      have HMP : Hid (MatP E k Z p) := HVM.out.1 rfl
      obtain ⟨PL, hPL⟩ : ∃ PL, PL = prl (maxS (nbs E k) m n).L n := ⟨_, rfl⟩
      have hMx : Hid (MatP E k (pE PL) PL.length) := by show MatP _ _ _ _; rw [hPL]; exact max_mat HV.out (maxM HV.out)
      have hMm : Hid (∀ Z' p', MatP E k Z' p' → p' ≤ PL.length) := fun Z' p' h => by rw [hPL]; exact mat_max HV.out (maxM HV.out) (rsI_of HV.out) h
      have hlen : PL.length ≤ n := by rw [hPL]; exact prl_len _ n
      have HMA := Lib.hid (max_ok n m k c A E w3 (HH.out.below B3) HV.out)
      rw [← hPL] at HMA
      unfold MaxOk at HMA
      clear hPL HVM
      go_wp2_with fail
      refine HMA.out.mono ?_; rintro e w4 ⟨v, rfl, hown, b4⟩
      obtain ⟨Ap, cq, rfl, _⟩ := own_prs hown
      have B4 := below_next B3 b4
      clear hown HMA b4 B3
      have hw1 : IntKind.i64.wrap ((n : Int) + 1) = (n : Int) + 1 := IntWalk.i64_in _ (by omega)
      go_wp2_with fail
      go_loopw [3, 57] (fun v i wr => ∃ (J : Nat) (B' : Option Addr) (cp' : Nat) (Z' : Nat → Int × Int), J ≤ n ∧ i = .int .i64 J ∧ v = .slice B' (p + J) cp' ∧ Prs wr B' (p + J) Z' ∧ Hid (MatP E k Z' (p + J)) ∧ Below w.heap.size w wr) (fun _ i _ => n + 1 - (intOf i).toNat)
      case atStart => exact ⟨0, B, cp, Z, Nat.zero_le _, rfl, rfl, HZ.out.below B4, HMP, B4⟩
      case round =>
        clear B4 HMP HZ
        obtain ⟨J, B', cp', Z', hJ, rfl, rfl, hP, hMP, hB⟩ := hrel
        have hle := hMm.out _ _ hMP.out
        have hwrap : IntKind.i64.wrap ((J : Int) + 1) = (J : Int) + 1 := IntWalk.i64_in _ (by omega)
        have hlt : decide ((J : Int) < (n : Int) + 1) = true := decide_eq_true (by omega)
        have HA := Lib.hid (aug_any n m k c (p + J) cp' A B' E Z' wr (HH.out.below hB) HV.out hP (matP_wf HV.out hMP.out) (by omega))
        unfold AuEnd at HA
        clear hP
        go_wp2_with fail
        refine HA.out.mono ?_; rintro e w5 (⟨hno, rfl, b5⟩ | ⟨L, v, _, hF, rfl, hown, b5⟩ | ⟨_, hno, rfl, b5⟩)
        · exact absurd hMP.out hno
        · have hlen2 := hF.len
          have hmat : Hid (MatP E k (pE (prl L n)) (prl L n).length) := hF.mat
          obtain ⟨An, cn, rfl, hPn⟩ := own_prs hown
          have HPn := Lib.hid hPn
          clear hown hPn hF HA
          have hB5 := below_next hB b5
          generalize prl L n = NL at *
          have hw2 : IntKind.i64.wrap ((((p + J : Nat) : Int)) + 1) = ((p + J + 1 : Nat) : Int) := IntWalk.i64_in _ (by omega)
          have hl5 : NL.length = p + (J + 1) := by omega
          rw [hl5] at HPn hmat
          have hq : (((p + (J + 1) : Nat) : Int) != ((p + J + 1 : Nat) : Int)) = false := by simp; omega
          rw [hl5]
          clear hlen2 b5
          go_wp2_with fail
          go_roundw
          case rel => exact ⟨J + 1, An, cn, pE NL, by have := hMm.out _ _ hmat.out; omega, by go_num, rfl, HPn.out, hmat, hB5⟩
          case measure => simp [intOf]; omega
        · have hge := hno _ _ hMx.out
          have heq : p + J = PL.length := by omega
          have hB5 := below_next hB b5
          have hq : (((p + J : Nat) : Int) == ((PL.length : Nat) : Int)) = true := by rw [heq]; simp
          clear HA hno b5
          go_wp2_with fail
          go_ret
          exact ⟨rfl, hB5⟩
  · refine (rValid_no N M A k c E w1 (HH.out.below b1) hv).mono ?_; rintro e w2 ⟨rfl, b2⟩
    have B2 := below_next b1 b2
    go_wp2_with fail
    go_ret
    exact ⟨rfl, B2⟩
end Go.Proofs.Ytmafnncpdccfdaa
