/- The reference's IsCover. -/
import Derived.Test.YtmafnncpdccfdaaMRim
import Derived.Lib.QuietBelow
namespace Go.Proofs.Ytmafnncpdccfdaa
open Go.RowKit Go.Sort
/- the first K edges are covered -/
def Cov (E : Nat → Int × Int) (f g : Nat → Nat) (K : Nat) : Prop := ∀ i, i < K → bt f (E i).1.toNat = true ∨ bt g (E i).2.toNat = true
theorem Cov.next {E : Nat → Int × Int} {f g : Nat → Nat} {K : Nat} (h : Cov E f g K) (h2 : bt f (E K).1.toNat = true ∨ bt g (E K).2.toNat = true) : Cov E f g (K + 1) := fun i hi => by
  by_cases e : i = K
  · subst e; exact h2
  · exact h i (by omega)
set_option maxRecDepth 100000 in
set_option maxHeartbeats 4000000 in
theorem isCov_any (n m k c ca cb : Nat) (A X Y : Option Addr) (E : Nat → Int × Int) (f g : Nat → Nat) (v : Bool) (w : World) (h : Prs w A k E) (hv : VG n m k E) (hX : Wds w X ((n + 63) / 64) f) (hY : Wds w Y ((m + 63) / 64) g) (hvv : v = true ↔ Cov E f g k) :
    Calls Try.prog 27 #[.slice A k c, .agg #[.int .i64 n, .slice X ((n + 63) / 64) ca], .agg #[.int .i64 m, .slice Y ((m + 63) / 64) cb]] w fun e w' => e = .returned (.bool v) ∧ Below w.heap.size w w' := by
  have hn := hv.n1
  have hm := hv.m1
  have hk := hv.k2
  have HH := Lib.hid h
  have HV := Lib.hid hv
  have HX := Lib.hid hX
  have HY := Lib.hid hY
  have HVV := Lib.hid hvv
  clear h hv hX hY hvv
  have hT := two_new w n m X Y ((n + 63) / 64) ca ((m + 63) / 64) cb
  go_enter Try.func27, Try.ntmps27
  go_upto_region 1 with fail
  generalize (w.alloc (.cells #[.int .i64 n, .slice X ((n + 63) / 64) ca] 30)).alloc (.cells #[.int .i64 m, .slice Y ((m + 63) / 64) cb] 30) = W at *
  go_wp2_with fail
  go_loopw [7] (fun i wr => ∃ K : Nat, K ≤ k ∧ i = .int .i64 K ∧ Cov E f g K ∧ Two w wr n m X Y ((n + 63) / 64) ca ((m + 63) / 64) cb) (fun i _ => k - (intOf i).toNat)
  case atStart => exact ⟨0, Nat.zero_le _, rfl, fun _ h => absurd h (Nat.not_lt_zero _), hT⟩
  case round =>
    clear hT
    obtain ⟨K, hK, rfl, hC, hT⟩ := hrel
    by_cases hlt : K < k
    · obtain ⟨b, off, rfl, hbl, hcz⟩ := (HH.out.below hT.b) (by omega)
      obtain ⟨x0, x1⟩ := hcz K hlt
      clear hcz
      obtain ⟨⟨g1, g2⟩, g3, g4⟩ := HV.out.ran K hlt
      obtain ⟨a, ha⟩ := Int.eq_ofNat_of_zero_le g1
      obtain ⟨x, hx⟩ := Int.eq_ofNat_of_zero_le g3
      have han : a < n := by omega
      have hxm : x < m := by omega
      have hwrap : IntKind.i64.wrap ((K : Int) + 1) = (K : Int) + 1 := IntWalk.i64_in _ (by omega)
      obtain ⟨va, hva⟩ : ∃ va, bt f a = va := ⟨_, rfl⟩
      obtain ⟨vb, hvb⟩ : ∃ vb, bt g x = vb := ⟨_, rfl⟩
      have hnext : Hid ((va = true ∨ vb = true) → Cov E f g (K + 1)) := fun h => hC.next (by rw [ha, hx]; rw [← hva, ← hvb] at h; exact h)
      have hno : Hid (va = false → vb = false → v = false) := fun h1 h2 => by
        cases hc : v with
        | false => rfl
        | true =>
          have := HVV.out.1 hc K hlt
          rw [ha, hx] at this
          rcases this with h | h
          · rw [show (a : Int).toNat = a from rfl, hva, h1] at h; cases h
          · rw [show (x : Int).toNat = x from rfl, hvb, h2] at h; cases h
      rw [ha] at x0
      rw [hx] at x1
      have k0 := cell_regrown hT.s.c0
      have k1 := cell_regrown hT.s.c1
      have k2 := cell_regrown hT.t.c0
      have k3 := cell_regrown hT.t.c1
      have k4 := cell_regrown x0
      have k5 := cell_regrown x1
      have hXw := HX.out.below hT.b
      have hYw := HY.out.below hT.b
      have CA := Lib.hid (fun d os => Calls.regrown_of (rHas_in n a X ((n + 63) / 64) ca f va (grow (redrawn wr d) os) (hXw.below (below_regrown wr d os)) han (by omega) rfl hva))
      have CB := Lib.hid (fun d os => Calls.regrown_of (rHas_in m x Y ((m + 63) / 64) cb g vb (grow (redrawn wr d) os) (hYw.below (below_regrown wr d os)) hxm (by omega) rfl hvb))
      clear ha hx g1 g2 g3 g4 hva hvb x0 x1 hXw hYw hC
      cases va with
      | true =>
        have HN := Lib.hid (hnext.out (.inl rfl))
        clear hnext hno
        go_upto_region 4 with fail
        refine wp_region_quiet_below (by kernel_rfl) (by kernel_rfl) ?_
        repeat (first | go_big_quiet_step (first | with_reducible exact CA.out _ _ | with_reducible exact CB.out _ _) | quiet_step (first | with_reducible exact CA.out _ _ | with_reducible exact CB.out _ _))
        refine wpQuiet_nil ?_
        intro _ hw'
        obtain ⟨⟨dq, osq⟩, hw''⟩ := hw'
        subst hw''
        clear k0 k1 k2 k3 k4 k5 CA CB
        have hT2 := hT.next (below_regrown wr dq osq)
        go_wp2_with fail
        go_roundw
        case rel => exact ⟨K + 1, hlt, by go_num, HN.out, hT2⟩
        case measure => simp [intOf]; omega
      | false =>
        cases vb with
        | true =>
          have HN := Lib.hid (hnext.out (.inr rfl))
          clear hnext hno
          go_upto_region 4 with fail
          refine wp_region_quiet_below (by kernel_rfl) (by kernel_rfl) ?_
          repeat (first | go_big_quiet_step (first | with_reducible exact CA.out _ _ | with_reducible exact CB.out _ _) | quiet_step (first | with_reducible exact CA.out _ _ | with_reducible exact CB.out _ _))
          refine wpQuiet_nil ?_
          intro _ hw'
          obtain ⟨⟨dq, osq⟩, hw''⟩ := hw'
          subst hw''
          clear k0 k1 k2 k3 k4 k5 CA CB
          have hT2 := hT.next (below_regrown wr dq osq)
          go_wp2_with fail
          go_roundw
          case rel => exact ⟨K + 1, hlt, by go_num, HN.out, hT2⟩
          case measure => simp [intOf]; omega
        | false =>
          have hv1 := hno.out rfl rfl
          subst hv1
          clear hnext hno
          go_upto_region 4 with fail
          refine wp_region_quiet_below (by kernel_rfl) (by kernel_rfl) ?_
          repeat (first | go_big_quiet_step (first | with_reducible exact CA.out _ _ | with_reducible exact CB.out _ _) | quiet_step (first | with_reducible exact CA.out _ _ | with_reducible exact CB.out _ _))
          refine wpQuiet_nil ?_
          intro _ hw'
          obtain ⟨⟨dq, osq⟩, hw''⟩ := hw'
          subst hw''
          clear k0 k1 k2 k3 k4 k5 CA CB
          have hT2 := hT.next (below_regrown wr dq osq)
          go_wp2_with fail
          go_ret
          exact ⟨rfl, hT2.b⟩
    · obtain rfl : K = k := by omega
      have hv1 := HVV.out.2 hC
      subst hv1
      go_wp2_with fail
      go_ret
      exact ⟨rfl, hT.b⟩
end Go.Proofs.Ytmafnncpdccfdaa
