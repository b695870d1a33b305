/- NumberRing: the law's own text, walked: it returns true for every three integers. -/
import Derived.Test.YtcgmbgamhlfpcaaDoorRingWalk
namespace Go.Proofs.YtcgmbgamhlfpcaaDoor
open Go.RowKit
theorem ring_facts (a b c z1 z2 z3 z4 z5 z6 z7 z8 z9 z10 z11 z12 z13 z14 z15 z16 z17 : Int) (o1 o2 o3 o4 o5 o6 o7 o8 o9 o10 o11 o12 o13 o14 o15 o16 o17 : Bool) (r1 : AddR a b true o1 z1) (r2 : AddR b a o1 o2 z2) (r3 : AddR a b o2 o3 z3) (r4 : AddR z3 c o3 o4 z4) (r5 : AddR b c o4 o5 z5) (r6 : AddR a z5 o5 o6 z6) (r7 : MulR a b o6 o7 z7) (r8 : MulR b a o7 o8 z8) (r9 : MulR a b o8 o9 z9) (r10 : MulR z9 c o9 o10 z10) (r11 : MulR b c o10 o11 z11) (r12 : MulR a z11 o11 o12 z12) (r13 : AddR b c o12 o13 z13) (r14 : MulR a z13 o13 o14 z14) (r15 : MulR a b o14 o15 z15) (r16 : MulR a c o15 o16 z16) (r17 : AddR z15 z16 o16 o17 z17) (h : o17 = true) :
    Num a ∧ Num b ∧ Num c ∧ Num (a + b + c) ∧ z1 = z2 ∧ z4 = a + b + c ∧ z6 = a + b + c ∧ z7 = z8 ∧ z10 = z12 ∧ z14 = z17 := by
  obtain ⟨g17, x17, y17, s17, e17⟩ := r17.1 h
  obtain ⟨g16, x16, y16, s16, e16⟩ := r16.1 g17
  obtain ⟨g15, x15, y15, s15, e15⟩ := r15.1 g16
  obtain ⟨g14, x14, y14, s14, e14⟩ := r14.1 g15
  obtain ⟨g13, x13, y13, s13, e13⟩ := r13.1 g14
  obtain ⟨g12, x12, y12, s12, e12⟩ := r12.1 g13
  obtain ⟨g11, x11, y11, s11, e11⟩ := r11.1 g12
  obtain ⟨g10, x10, y10, s10, e10⟩ := r10.1 g11
  obtain ⟨g9, x9, y9, s9, e9⟩ := r9.1 g10
  obtain ⟨g8, x8, y8, s8, e8⟩ := r8.1 g9
  obtain ⟨g7, x7, y7, s7, e7⟩ := r7.1 g8
  obtain ⟨g6, x6, y6, s6, e6⟩ := r6.1 g7
  obtain ⟨g5, x5, y5, s5, e5⟩ := r5.1 g6
  obtain ⟨g4, x4, y4, s4, e4⟩ := r4.1 g5
  obtain ⟨g3, x3, y3, s3, e3⟩ := r3.1 g4
  obtain ⟨g2, x2, y2, s2, e2⟩ := r2.1 g3
  obtain ⟨g1, x1, y1, s1, e1⟩ := r1.1 g2
  subst e1 e2 e3 e5 e7 e8 e9 e11 e13 e15 e16
  subst e4 e6 e10 e12 e14 e17
  exact ⟨x1, y1, y4, s4, Int.add_comm _ _, rfl, (Int.add_assoc _ _ _).symm, Int.mul_comm _ _, Int.mul_assoc _ _ _, Int.mul_add _ _ _⟩
theorem sum_three (bl off cap : Nat) (a b c S : Int) (w : World) (h0 : w.cell? ⟨bl, off, none⟩ = some (.int .i64 a)) (h1 : w.cell? ⟨bl, off + 1, none⟩ = some (.int .i64 b)) (h2 : w.cell? ⟨bl, off + 2, none⟩ = some (.int .i64 c))
    (hn : Num a ∧ Num b ∧ Num c ∧ Num (a + b + c)) (hS : a + b + c = S) :
    Calls Tryd.prog 16 #[.slice (some ⟨bl, off, none⟩) 3 cap] w fun e w' => e = .returned (.tuple #[.int .i64 S, .int .i64 0]) ∧ w = w' := by
  subst hS
  obtain ⟨na, nb, nc, ns⟩ := hn
  have hp : psum (fun i => match i with | 0 => a | 1 => b | _ => c) 3 = a + b + c := by simp [psum]
  rw [← hp]
  rw [← hp] at ns
  refine sum_ok bl off 3 cap _ w (by omega) (fun i hi => ?_) (fun i hi => ?_) ns.1 ns.2
  · match i, hi with
    | 0, _ => exact h0
    | 1, _ => exact h1
    | 2, _ => exact h2
  · match i, hi with
    | 0, _ => exact na
    | 1, _ => exact nb
    | 2, _ => exact nc
set_option maxRecDepth 100000 in
set_option maxHeartbeats 4000000 in
theorem ring_any (a b c : Int) (w : World) :
    Calls Tryd.prog 6 #[.int .i64 a, .int .i64 b, .int .i64 c] w fun e w' => e = .returned (.bool true) ∧ Below w.heap.size w w' := by
  go_enter Tryd.func6, Tryd.ntmps6
  go_wp2_with fail
  refine (awake_any _).mono ?_; rintro e w0 ⟨rfl, b0⟩
  go_wp2_with fail
  with_reducible refine (own_add _ _ _ true _ (Lib.hid (heap_alloc_new w0 _))).mono ?_; rintro e w1 ⟨z1, o1, rfl, h1, c1, r1⟩
  have b1 := (Below.refl w0.heap.size w0).alloc (Nat.le_refl _) (.cells #[.bool true] 4) |>.trans c1
  clear c1
  go_wp2_with fail
  with_reducible refine (own_add _ _ _ _ _ h1).mono ?_; rintro e w2 ⟨z2, o2, rfl, h2, c2, r2⟩
  have b2 := b1.trans c2
  clear c2 h1 b1
  go_wp2_with fail
  with_reducible refine (own_add _ _ _ _ _ h2).mono ?_; rintro e w3 ⟨z3, o3, rfl, h3, c3, r3⟩
  have b3 := b2.trans c3
  clear c3 h2 b2
  go_wp2_with fail
  with_reducible refine (own_add _ _ _ _ _ h3).mono ?_; rintro e w4 ⟨z4, o4, rfl, h4, c4, r4⟩
  have b4 := b3.trans c4
  clear c4 h3 b3
  go_wp2_with fail
  with_reducible refine (own_add _ _ _ _ _ h4).mono ?_; rintro e w5 ⟨z5, o5, rfl, h5, c5, r5⟩
  have b5 := b4.trans c5
  clear c5 h4 b4
  go_wp2_with fail
  with_reducible refine (own_add _ _ _ _ _ h5).mono ?_; rintro e w6 ⟨z6, o6, rfl, h6, c6, r6⟩
  have b6 := b5.trans c6
  clear c6 h5 b5
  go_wp2_with fail
  with_reducible refine (own_mul _ _ _ _ _ h6).mono ?_; rintro e w7 ⟨z7, o7, rfl, h7, c7, r7⟩
  have b7 := b6.trans c7
  clear c7 h6 b6
  go_wp2_with fail
  with_reducible refine (own_mul _ _ _ _ _ h7).mono ?_; rintro e w8 ⟨z8, o8, rfl, h8, c8, r8⟩
  have b8 := b7.trans c8
  clear c8 h7 b7
  go_wp2_with fail
  with_reducible refine (own_mul _ _ _ _ _ h8).mono ?_; rintro e w9 ⟨z9, o9, rfl, h9, c9, r9⟩
  have b9 := b8.trans c9
  clear c9 h8 b8
  go_wp2_with fail
  with_reducible refine (own_mul _ _ _ _ _ h9).mono ?_; rintro e w10 ⟨z10, o10, rfl, h10, c10, r10⟩
  have b10 := b9.trans c10
  clear c10 h9 b9
  go_wp2_with fail
  with_reducible refine (own_mul _ _ _ _ _ h10).mono ?_; rintro e w11 ⟨z11, o11, rfl, h11, c11, r11⟩
  have b11 := b10.trans c11
  clear c11 h10 b10
  go_wp2_with fail
  with_reducible refine (own_mul _ _ _ _ _ h11).mono ?_; rintro e w12 ⟨z12, o12, rfl, h12, c12, r12⟩
  have b12 := b11.trans c12
  clear c12 h11 b11
  go_wp2_with fail
  with_reducible refine (own_add _ _ _ _ _ h12).mono ?_; rintro e w13 ⟨z13, o13, rfl, h13, c13, r13⟩
  have b13 := b12.trans c13
  clear c13 h12 b12
  go_wp2_with fail
  with_reducible refine (own_mul _ _ _ _ _ h13).mono ?_; rintro e w14 ⟨z14, o14, rfl, h14, c14, r14⟩
  have b14 := b13.trans c14
  clear c14 h13 b13
  go_wp2_with fail
  with_reducible refine (own_mul _ _ _ _ _ h14).mono ?_; rintro e w15 ⟨z15, o15, rfl, h15, c15, r15⟩
  have b15 := b14.trans c15
  clear c15 h14 b14
  go_wp2_with fail
  with_reducible refine (own_mul _ _ _ _ _ h15).mono ?_; rintro e w16 ⟨z16, o16, rfl, h16, c16, r16⟩
  have b16 := b15.trans c16
  clear c16 h15 b15
  go_wp2_with fail
  with_reducible refine (own_add _ _ _ _ _ h16).mono ?_; rintro e w17 ⟨z17, o17, rfl, h17, c17, r17⟩
  have b17 := b16.trans c17
  clear c17 h16 b16
  have HF := Lib.hid (ring_facts a b c z1 z2 z3 z4 z5 z6 z7 z8 z9 z10 z11 z12 z13 z14 z15 z16 z17 o1 o2 o3 o4 o5 o6 o7 o8 o9 o10 o11 o12 o13 o14 o15 o16 o17 r1 r2 r3 r4 r5 r6 r7 r8 r9 r10 r11 r12 r13 r14 r15 r16 r17)
  clear r1 r2 r3 r4 r5 r6 r7 r8 r9 r10 r11 r12 r13 r14 r15 r16 r17
  have hcell := cell_of_one h17.out
  have hlt := lt_of_block h17.out
  cases o17
  · go_wp2_with fail
    go_ret
    exact ⟨rfl, below_then b0 ((b17.alloc (Nat.le_of_lt hlt) _))⟩
  · obtain ⟨na, nb, nc, ns, e12, e4, e6, e78, e1012, e1417⟩ := HF.out rfl
    obtain rfl : z6 = z4 := e6.trans e4.symm
    subst e12 e78 e1012 e1417
    have hS := Lib.hid e4.symm
    clear e4 e6 HF
    have N3 : Hid (Num a ∧ Num b ∧ Num c ∧ Num (a + b + c)) := ⟨na, nb, nc, ns⟩
    clear na nb nc ns
    go_wp2_with fail
    refine (sum_three _ _ _ a b c z6 _ ?_ ?_ ?_ N3.out hS.out).mono ?_
    · go_simp
    · go_simp
    · go_simp
    rintro e w18 ⟨rfl, rfl⟩
    go_wp2_with fail
    go_quiet (fail)
    go_wp2
    go_ret
    exact ⟨rfl, below_then (below_then b0 ((b17.alloc (Nat.le_of_lt hlt) _).alloc (by simp; omega) _)) (below_drewN _ _)⟩
end Go.Proofs.YtcgmbgamhlfpcaaDoor
