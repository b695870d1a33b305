/- The reference's improve: the search by recursion, as the function vis. -/
import Derived.Test.YtmafnncpdccfdaaMVis
namespace Go.Proofs.Ytmafnncpdccfdaa
open Go.RowKit
structure RSt (w : World) (m gR gS : Nat) (g : Gr) : Prop where
  r : w.rowIs gR 3 m (ivals g.R)
  s : w.rowIs gS 4 m (bvals g.seen)
def RvEnd (w : World) (lim m gR gS : Nat) (out : Bool × Gr) (e : Ending) (w' : World) : Prop :=
  e = .returned (.bool out.1) ∧ RSt w' m gR gS out.2 ∧ Below lim w w' ∧ Kp gR gR gS w w'
theorem kp_setR {gR gS : Nat} (w : World) (q : Addr) (hq : q.block = gR) (u : Value) : Kp gR gR gS w (w.setCell q u) := ⟨by simp, fun b _ hx => Below.heap_setCell w q u b (by rw [hq]; exact hx.1)⟩
set_option maxRecDepth 100000 in
set_option maxHeartbeats 4000000 in
theorem rimp_any (lim n m gN gR gS : Nat) (nb : Nat → List Nat) (Ad : Nat → Option Addr) (cp : Nat → Nat) (hnb : ∀ a b, b ∈ nb a → b < m) (hlen : ∀ a, (nb a).length ≤ 2000) (l2 : lim ≤ gR) (l3 : lim ≤ gS) (hRS : gR ≠ gS) :
    ∀ (f a : Nat) (g : Gr) (w : World), NbAt w (Out gR gR gS) gN n nb Ad cp → RSt w m gR gS g → Mat n m nb g → a < n → (g.L a = -1 ∨ ∃ b : Nat, g.L a = b ∧ g.seen b = true) → un g.seen m < f →
    Calls Try.prog 49 #[.slice (some ⟨gN, 0, none⟩) n n, .int .i64 a, .slice (some ⟨gS, 0, none⟩) m m, .slice (some ⟨gR, 0, none⟩) m m] w (RvEnd w lim m gR gS (vis nb f a g)) := by
  intro f
  induction f with
  | zero => intro a g w _ _ _ _ _ h; exact absurd h (Nat.not_lt_zero _)
  | succ f ih =>
    intro a g w hE hS hM ha hat hun
    have IH := Lib.hid ih; clear ih
    have HNB := Lib.hid hnb; clear hnb
    have HI := Lib.hid (inv_start hM hat hun); clear hM hat hun
    have HE := Lib.hid hE; clear hE
    have hl := hlen a
    have HLEN := Lib.hid hlen; clear hlen
    obtain ⟨len, hlen⟩ : ∃ len, len = (nb a).length := ⟨_, rfl⟩
    obtain ⟨A, hA⟩ : ∃ A, A = Ad a := ⟨_, rfl⟩
    rw [← hlen] at hl
    have HLN := Lib.hid hlen
    have HAD := Lib.hid hA
    have HRow : Hid (∀ w', NbAt w' (Out gR gR gS) gN n nb Ad cp → w'.cell? ⟨gN, a, none⟩ = some (.slice A len (cp a))) := fun w' h => by rw [hlen, hA]; exact h.rows.cell ha
    clear hlen hA
    go_enter Try.func49, Try.ntmps49
    go_wp2_with fail
    go_loopw [9] (fun i wr => ∃ (K : Nat) (g' : Gr), K ≤ len ∧ i = .int .i64 K ∧ RSt wr m gR gS g' ∧ Hid (Inv n m nb f a K g g') ∧ Below lim w wr ∧ Hid (Kp gR gR gS w wr)) (fun i _ => len - (intOf i).toNat)
    case atStart => exact ⟨0, g, Nat.zero_le _, rfl, hS, HI, Below.refl _ _, Lib.hid (Kp.refl _ _ _ _)⟩
    case round =>
      clear HI hS
      obtain ⟨K, g', hK, rfl, hS, HI, hB, HK⟩ := hrel
      have hEr := HE.out.keep HK.out.1 HK.out.2
      have r0 := HRow.out _ hEr
      by_cases hlt : K < len
      · have hltn : K < (nb a).length := by rw [← HLN.out]; exact hlt
        obtain ⟨b0, off, hAd, -, hbl, hcz⟩ := hEr.each a ha (by omega)
        have x0 := hcz K hltn
        have hA : A = some ⟨b0, off, none⟩ := HAD.out.trans hAd
        clear hcz hAd
        have hbm0 := HNB.out a _ (mem_at hltn)
        obtain ⟨b, hb⟩ : ∃ b, b = (nb a).getD K 0 := ⟨_, rfl⟩
        rw [← hb] at x0 hbm0
        have HBB := Lib.hid hb
        clear hb
        subst hA
        have s0 : wr.cell? ⟨gS, b, none⟩ = some (.bool (g'.seen b)) := hS.s.cell hbm0
        have hwrap : IntKind.i64.wrap ((K : Int) + 1) = (K : Int) + 1 := IntWalk.i64_in _ (by omega)
        cases hs : g'.seen b with
        | true =>
          rw [hs] at s0
          have HI2 := Lib.hid (HI.out.skip hltn (by rw [← HBB.out]; exact hs))
          have hKn : K + 1 ≤ len := hlt
          clear hs hltn HI hEr
          go_wp2_with fail
          go_roundw
          case rel => exact ⟨K + 1, g', hKn, by go_num, hS, HI2, hB, HK⟩
          case measure => simp [intOf]; omega
        | false =>
          rw [hs] at s0
          have z0 : wr.frozen? ⟨gS, b, none⟩ = false := hS.s.frozen b
          have hS1 : RSt (wr.setCell ⟨gS, b, none⟩ (.bool true)) m gR gS (g'.see b) := ⟨hS.r.setOther (by exact hRS) _, row_mark hS.s⟩
          have kp1 := HK.out.trans (kp_set gR gR gS wr ⟨gS, b, none⟩ rfl (.bool true))
          have B1 := hB.setCell (p := ⟨gS, b, none⟩) (by exact l3) (.bool true)
          go_upto_region 7 with fail
          clear s0 z0 x0 hEr hbl r0
          generalize wr.setCell ⟨gS, b, none⟩ (.bool true) = w1 at *
          have E1 := HE.out.keep kp1.1 kp1.2
          have HKP := Lib.hid kp1
          clear kp1
          have r1 : w1.cell? ⟨gR, b, none⟩ = some (.int .i64 (g'.R b)) := hS1.r.cell hbm0
          by_cases hr : g'.R b = -1
          · rw [hr] at r1
            have z1 : w1.frozen? ⟨gR, b, none⟩ = false := hS1.r.frozen b
            have hfin := Lib.hid (HI.out.free hltn HBB.out hs hr)
            clear hr HI hs hltn
            have hr3 := row_put (k := b) hS1.r (a : Int)
            have hs3 := hS1.s.setOther (a := ⟨gR, b, none⟩) (by exact hRS.symm) (.int .i64 (a : Int))
            have B3 := B1.setCell (p := ⟨gR, b, none⟩) (by exact l2) (.int .i64 (a : Int))
            have K3 := Lib.hid (HKP.out.trans (kp_setR (gR := gR) (gS := gS) w1 ⟨gR, b, none⟩ rfl (.int .i64 (a : Int))))
            have H3 := Lib.hid (RSt.mk (g := (g'.see b).mat a b) hr3 hs3)
            clear hr3 hs3 hS1 E1 B1 HKP
            go_wp2_with fail
            go_ret
            rw [hfin.out]
            exact ⟨rfl, H3.out, B3, K3.out⟩
          · obtain ⟨d, hd⟩ := HI.out.deep HNB.out hltn HBB.out hs hr
            rw [hd.rd] at r1
            have q1 : decide ((d : Int) < 0) = false := decide_eq_false (by omega)
            have HC1 := Lib.hid (IH.out d (g'.see b) w1 E1 hS1 hd.mat hd.dn hd.at_ hd.un_)
            have HDP := Lib.hid hd
            clear hr HI hs hltn hd
            have HY := Lib.hid HDP.out.yes
            have HN := Lib.hid HDP.out.no
            clear HDP
            generalize vis nb f d (g'.see b) = out at *
            obtain ⟨r, g2⟩ := out
            cases r with
            | true =>
              have hfin := Lib.hid (HY.out rfl)
              clear HY HN
              go_wp2_with fail
              refine HC1.out.mono ?_; rintro e w3 ⟨rfl, S3, b3, k3⟩
              have r3 : w3.cell? ⟨gR, b, none⟩ = some (.int .i64 (g2.R b)) := S3.r.cell hbm0
              have z1 : w3.frozen? ⟨gR, b, none⟩ = false := S3.r.frozen b
              have hr3 := row_put (k := b) S3.r (a : Int)
              have hs3 := S3.s.setOther (a := ⟨gR, b, none⟩) (by exact hRS.symm) (.int .i64 (a : Int))
              have B3 := (B1.trans b3).setCell (p := ⟨gR, b, none⟩) (by exact l2) (.int .i64 (a : Int))
              have K3 := Lib.hid ((HKP.out.trans k3).trans (kp_setR (gR := gR) (gS := gS) w3 ⟨gR, b, none⟩ rfl (.int .i64 (a : Int))))
              have H3 := Lib.hid (RSt.mk (g := g2.mat a b) hr3 hs3)
              clear hr3 hs3 hS1 S3 E1 B1 HKP HC1 k3 b3 r1
              go_wp2_with fail
              go_ret
              rw [hfin.out]
              exact ⟨rfl, H3.out, B3, K3.out⟩
            | false =>
              have HI2 := Lib.hid (HN.out rfl)
              have hKn : K + 1 ≤ len := hlt
              clear HY HN
              go_wp2_with fail
              refine HC1.out.mono ?_; rintro e w3 ⟨rfl, S3, b3, k3⟩
              have KP3 := Lib.hid (HKP.out.trans k3)
              have B3 := B1.trans b3
              clear HC1 k3 b3 B1 r1 E1
              go_wp2_with fail
              go_roundw
              case rel => exact ⟨K + 1, g2, hKn, by go_num, S3, HI2, B3, KP3⟩
              case measure => simp [intOf]; omega
      · obtain rfl : K = len := by omega
        have hdone : vis nb (f + 1) a g = (false, g') := Inv.done (by rw [← HLN.out]; exact HI.out)
        have HD := Lib.hid hdone
        clear hdone hEr
        go_wp2_with fail
        go_ret
        rw [HD.out]
        exact ⟨rfl, hS, hB, HK.out⟩
end Go.Proofs.Ytmafnncpdccfdaa
