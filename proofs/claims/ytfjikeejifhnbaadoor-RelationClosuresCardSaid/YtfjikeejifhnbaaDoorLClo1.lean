/- RelationClosures walked: too large, or the first one not valid. -/
import Derived.Test.YtfjikeejifhnbaaDoorRIs
import Derived.Test.YtfjikeejifhnbaaDoorLEiM
namespace Go.Proofs.YtfjikeejifhnbaaDoor
open Go.RowKit
set_option maxRecDepth 100000 in
set_option maxHeartbeats 16000000 in
theorem clo_big (A B : Option Addr) (n m ca cb : Nat) (R S : Nat → RowD) (w : World) (hx : Rel w A n R) (hy : Rel w B m S) (hT : Tab w) (hg : ∃ k, k < 2 ∧ Great (pk2 ⟨A, n, ca, R⟩ ⟨B, m, cb, S⟩ k).n (pk2 ⟨A, n, ca, R⟩ ⟨B, m, cb, S⟩ k).R) :
    Calls Tryd.prog 4 #[.agg #[.slice A n ca], .agg #[.slice B m cb]] w fun e w' => e = .returned (.bool true) ∧ Below w.heap.size w w' := by
  have HG := Lib.hid hg; clear hg
  have hT0 : PairB w _ ⟨A, n, ca, R⟩ ⟨B, m, cb, S⟩ := pairB_new w ⟨A, n, ca, R⟩ ⟨B, m, cb, S⟩ hx hy
  clear hx hy
  replace hT0 : PairB w ((w.alloc (.cells #[.slice A n ca] 24)).alloc (.cells #[.slice B m cb] 24)) ⟨A, n, ca, R⟩ ⟨B, m, cb, S⟩ := hT0
  go_enter Tryd.func4, Tryd.ntmps4
  go_wp2_with fail
  refine (awake_any _ (hT.below hT0.f)).mono ?_; rintro e w1 ⟨rfl, b1⟩
  have hT1 := hT0.next b1
  clear hT0 b1
  have c0 : w1.cell? ⟨w.heap.size, 0, none⟩ = some (.slice A n ca) := hT1.a.c0
  have c1 : w1.cell? ⟨w.heap.size + 1, 0, none⟩ = some (.slice B m cb) := hT1.b.c0
  go_wp2_with fail
  clear c0 c1
  refine (great_any w1.heap.size 2 (pk2 ⟨A, n, ca, R⟩ ⟨B, m, cb, S⟩) true _ (rels_two w1 (pk2 ⟨A, n, ca, R⟩ ⟨B, m, cb, S⟩) hT1.ra hT1.rb) (by decide) (Or.inl ⟨rfl, HG.out⟩)).mono ?_; rintro e w2 ⟨rfl, b2⟩
  have hT2 := hT1.next (((Below.refl _ _).alloc (Nat.le_refl _) _).trans (b2.mono (by simp)))
  clear hT1 b2
  go_wp2_with fail
  go_ret
  exact ⟨rfl, hT2.f⟩
set_option maxRecDepth 100000 in
set_option maxHeartbeats 16000000 in
theorem clo_nv (A B : Option Addr) (n m ca cb : Nat) (R S : Nat → RowD) (w : World) (hx : Rel w A n R) (hy : Rel w B m S) (hT : Tab w) (hg : ∀ k, k < 2 → ¬ Great (pk2 ⟨A, n, ca, R⟩ ⟨B, m, cb, S⟩ k).n (pk2 ⟨A, n, ca, R⟩ ⟨B, m, cb, S⟩ k).R) (vx : ¬ VRel n R) :
    Calls Tryd.prog 4 #[.agg #[.slice A n ca], .agg #[.slice B m cb]] w fun e w' => e = .returned (.bool true) ∧ Below w.heap.size w w' := by
  have hb0 : ¬ Great n R := hg 0 (by decide)
  have hn2 : n ≤ 1000000 := by
    rcases Nat.lt_or_ge 520 n with h | h
    · exact absurd (Or.inr (Or.inl h)) hb0
    · omega
  clear hb0
  have HG := Lib.hid hg; clear hg
  have VX := Lib.hid vx; clear vx
  have hT0 : PairB w _ ⟨A, n, ca, R⟩ ⟨B, m, cb, S⟩ := pairB_new w ⟨A, n, ca, R⟩ ⟨B, m, cb, S⟩ hx hy
  clear hx hy
  replace hT0 : PairB w ((w.alloc (.cells #[.slice A n ca] 24)).alloc (.cells #[.slice B m cb] 24)) ⟨A, n, ca, R⟩ ⟨B, m, cb, S⟩ := hT0
  go_enter Tryd.func4, Tryd.ntmps4
  go_wp2_with fail
  refine (awake_any _ (hT.below hT0.f)).mono ?_; rintro e w1 ⟨rfl, b1⟩
  have hT1 := hT0.next b1
  clear hT0 b1
  have c0 : w1.cell? ⟨w.heap.size, 0, none⟩ = some (.slice A n ca) := hT1.a.c0
  have c1 : w1.cell? ⟨w.heap.size + 1, 0, none⟩ = some (.slice B m cb) := hT1.b.c0
  go_wp2_with fail
  clear c0 c1
  refine (great_any w1.heap.size 2 (pk2 ⟨A, n, ca, R⟩ ⟨B, m, cb, S⟩) false _ (rels_two w1 (pk2 ⟨A, n, ca, R⟩ ⟨B, m, cb, S⟩) hT1.ra hT1.rb) (by decide) (Or.inr ⟨rfl, HG.out⟩)).mono ?_; rintro e w2 ⟨rfl, b2⟩
  have hT2 := hT1.next (((Below.refl _ _).alloc (Nat.le_refl _) _).trans (b2.mono (by simp)))
  clear hT1 b2
  have Xa : Oth w2 w.heap.size ⟨A, n, ca, R⟩ := ⟨hT2.a, hT2.ra⟩
  have Xo : Oth w2 (w.heap.size + 1) ⟨B, m, cb, S⟩ := ⟨hT2.b, hT2.rb⟩
  have hB := hT2.f
  clear hT2 HG
  have c0 := Xa.a.c0
  go_wp2_with fail
  clear c0
  refine (closure_err A n ca R _ Xa.r hn2 VX.out).mono ?_; rintro e w3 ⟨rfl, hb⟩
  have E1 : NilB (w3.alloc (.cells #[.slice none 0 0] 24)) w3.heap.size := ⟨relAt_new w3 none 0 0⟩
  replace Xa := Xa.nxt hb (.cells #[.slice none 0 0] 24)
  replace Xo := Xo.nxt hb (.cells #[.slice none 0 0] 24)
  replace hB := below_nxt hB hb (.cells #[.slice none 0 0] 24)
  clear hb
  have c0 := Xa.a.c0
  go_wp2_with fail
  clear c0
  generalize w3.heap.size = p3 at *
  generalize w3.alloc (.cells #[.slice none 0 0] 24) = W3 at *
  refine (reduction_err A n ca R _ Xa.r hn2 VX.out).mono ?_; rintro e w4 ⟨rfl, hb⟩
  have E2 : NilB (w4.alloc (.cells #[.slice none 0 0] 24)) w4.heap.size := ⟨relAt_new w4 none 0 0⟩
  replace Xa := Xa.nxt hb (.cells #[.slice none 0 0] 24)
  replace Xo := Xo.nxt hb (.cells #[.slice none 0 0] 24)
  replace E1 := E1.nxt hb (.cells #[.slice none 0 0] 24)
  replace hB := below_nxt hB hb (.cells #[.slice none 0 0] 24)
  clear hb
  have c0 := Xa.a.c0
  go_wp2_with fail
  clear c0
  generalize w4.heap.size = p4 at *
  generalize w4.alloc (.cells #[.slice none 0 0] 24) = W4 at *
  refine (inverse_err A n ca R _ Xa.r hn2 VX.out).mono ?_; rintro e w5 ⟨rfl, hb⟩
  have E3 : NilB (w5.alloc (.cells #[.slice none 0 0] 24)) w5.heap.size := ⟨relAt_new w5 none 0 0⟩
  replace Xa := Xa.nxt hb (.cells #[.slice none 0 0] 24)
  replace Xo := Xo.nxt hb (.cells #[.slice none 0 0] 24)
  replace E1 := E1.nxt hb (.cells #[.slice none 0 0] 24)
  replace E2 := E2.nxt hb (.cells #[.slice none 0 0] 24)
  replace hB := below_nxt hB hb (.cells #[.slice none 0 0] 24)
  clear hb
  have c0 := Xa.a.c0
  have c1 := Xo.a.c0
  go_wp2_with fail
  clear c0 c1
  generalize w5.heap.size = p5 at *
  generalize w5.alloc (.cells #[.slice none 0 0] 24) = W5 at *
  refine (compose_bad Xa.r Xo.r hn2 (fun h => VX.out h.1)).mono ?_; rintro e w6 ⟨rfl, hb⟩
  have E4 : NilB (w6.alloc (.cells #[.slice none 0 0] 24)) w6.heap.size := ⟨relAt_new w6 none 0 0⟩
  replace Xa := Xa.nxt hb (.cells #[.slice none 0 0] 24)
  replace Xo := Xo.nxt hb (.cells #[.slice none 0 0] 24)
  replace E1 := E1.nxt hb (.cells #[.slice none 0 0] 24)
  replace E2 := E2.nxt hb (.cells #[.slice none 0 0] 24)
  replace E3 := E3.nxt hb (.cells #[.slice none 0 0] 24)
  replace hB := below_nxt hB hb (.cells #[.slice none 0 0] 24)
  clear hb
  have c0 := Xa.a.c0
  go_wp2_with fail
  clear c0
  generalize w6.heap.size = p6 at *
  generalize w6.alloc (.cells #[.slice none 0 0] 24) = W6 at *
  refine (refValid_no A n ca R _ Xa.r VX.out).mono ?_; rintro e w7 ⟨rfl, hb⟩
  replace Xa := Xa.next hb
  replace Xo := Xo.next hb
  replace E1 := E1.next hb
  replace E2 := E2.next hb
  replace E3 := E3.next hb
  replace E4 := E4.next hb
  replace hB := below_next hB hb
  clear hb Xa Xo
  have c0 := E1.a.c0
  go_wp2_with fail
  clear c0
  refine (is_err 1 _ _ (by decide)).mono ?_; rintro e w8 ⟨rfl, hb⟩
  replace E1 := E1.next hb
  replace E2 := E2.next hb
  replace E3 := E3.next hb
  replace E4 := E4.next hb
  replace hB := below_next hB hb
  clear hb E1
  have c0 := E2.a.c0
  go_wp2_with fail
  clear c0
  refine (is_err 1 _ _ (by decide)).mono ?_; rintro e w9 ⟨rfl, hb⟩
  replace E2 := E2.next hb
  replace E3 := E3.next hb
  replace E4 := E4.next hb
  replace hB := below_next hB hb
  clear hb E2
  have c0 := E3.a.c0
  go_wp2_with fail
  clear c0
  refine (is_err 1 _ _ (by decide)).mono ?_; rintro e w10 ⟨rfl, hb⟩
  replace E3 := E3.next hb
  replace E4 := E4.next hb
  replace hB := below_next hB hb
  clear hb E3
  have c0 := E4.a.c0
  go_wp2_with fail
  clear c0
  refine (is_err 1 _ _ (by decide)).mono ?_; rintro e w11 ⟨rfl, hb⟩
  replace E4 := E4.next hb
  replace hB := below_next hB hb
  clear hb E4
  go_wp2_with fail
  go_ret
  exact ⟨rfl, hB⟩
end Go.Proofs.YtfjikeejifhnbaaDoor
