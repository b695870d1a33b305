/- FlowPaths: the law's own text, walked: it returns true for all networks, ends and lists. -/
import Derived.Test.YtjdceafkcakbjaaFPl
namespace Go.Proofs.Ytjdceafkcakbjaa
open Go.RowKit
def PtP (N s t : Int) (m c ml cl : Nat) (A L : Option Addr) (w : World) : Prop := Calls Try.prog 6 #[.agg #[.int .i64 N, .slice A m c], .int .i64 s, .int .i64 t, .slice L ml cl] w fun e w' => e = .returned (.bool true) ∧ Below w.heap.size w w'
def VC (N : Int) (m c : Nat) (A : Option Addr) (w : World) (v : Bool) : Prop := ∀ u, Below w.heap.size w u → Calls Try.prog 13 #[.agg #[.int .i64 N, .slice A m c]] u fun e w' => e = .returned (.bool v) ∧ Below u.heap.size u w'
def EC (N s t : Int) (m c : Nat) (A : Option Addr) (w : World) (v : Bool) : Prop := ∀ u, Below w.heap.size w u → Calls Try.prog 17 #[.agg #[.int .i64 N, .slice A m c], .int .i64 s, .int .i64 t] u fun e w' => e = .returned (.bool v) ∧ Below u.heap.size u w'
def FC (N s t : Int) (m c ml cl : Nat) (A L : Option Addr) (w : World) (v : Bool) : Prop := ∀ u, Below w.heap.size w u → Calls Try.prog 18 #[.agg #[.int .i64 N, .slice A m c], .int .i64 s, .int .i64 t, .slice L ml cl] u fun e w' => e = .returned (.bool v) ∧ Below u.heap.size u w'
def BC (N s : Int) (m c ml cl : Nat) (A L : Option Addr) (w : World) (V : Int) : Prop := ∀ u, Below w.heap.size w u → Calls Try.prog 19 #[.agg #[.int .i64 N, .slice A m c], .int .i64 s, .slice L ml cl] u fun e w' => e = .returned (.int .i64 V) ∧ Below u.heap.size u w'
def PC (N s t : Int) (m c ml cl : Nat) (A L : Option Addr) (w : World) (er : Int) : Prop := ∀ u, Below w.heap.size w u → Calls Try.prog 26 #[.agg #[.int .i64 N, .slice A m c], .int .i64 s, .int .i64 t, .slice L ml cl] u (PErr u er)
set_option maxRecDepth 100000 in
theorem pt_few (N s t : Int) (m c ml cl : Nat) (A L : Option Addr) (w : World) (hf : ¬ Few N m) : PtP N s t m c ml cl A L w := by
  have HFEW := Lib.hid hf; clear hf
  have n0 := netAt_new w N A m c
  have b0 := below_new w (.cells #[.int .i64 N, .slice A m c] 24)
  have c0 := n0.c0
  have c1 := n0.c1
  go_enter Try.func6, Try.ntmps6
  go_wp2_with fail
  refine (awake_any _).mono ?_; rintro e w1 ⟨rfl, k⟩
  have n1 := n0.below k
  have b1 := below_next b0 k
  clear n0 b0 k c0 c1
  have c0 := n1.c0
  have c1 := n1.c1
  go_wp2_with fail
  refine (few_any N A m c false _ (no_iff HFEW.out)).mono ?_; rintro e w2 ⟨rfl, k⟩
  have n2 := n1.below k
  have b2 := below_next b1 k
  clear n1 b1 k c0 c1
  have c0 := n2.c0
  have c1 := n2.c1
  go_wp2_with fail
  go_ret
  exact ⟨rfl, b2⟩
set_option maxRecDepth 100000 in
theorem pt_big (N s t : Int) (m c ml cl : Nat) (A L : Option Addr) (w : World) (hf : Few N m) (hb : 2100 < ml) : PtP N s t m c ml cl A L w := by
  have HFEW := Lib.hid hf; clear hf
  have q0 : decide (2100 < (ml : Int)) = true := decide_eq_true (by omega)
  clear hb
  have n0 := netAt_new w N A m c
  have b0 := below_new w (.cells #[.int .i64 N, .slice A m c] 24)
  have c0 := n0.c0
  have c1 := n0.c1
  go_enter Try.func6, Try.ntmps6
  go_wp2_with fail
  refine (awake_any _).mono ?_; rintro e w1 ⟨rfl, k⟩
  have n1 := n0.below k
  have b1 := below_next b0 k
  clear n0 b0 k c0 c1
  have c0 := n1.c0
  have c1 := n1.c1
  go_wp2_with fail
  refine (few_any N A m c true _ (yes_iff HFEW.out)).mono ?_; rintro e w2 ⟨rfl, k⟩
  have n2 := n1.below k
  have b2 := below_next b1 k
  clear n1 b1 k c0 c1
  have c0 := n2.c0
  have c1 := n2.c1
  go_wp2_with fail
  go_ret
  exact ⟨rfl, b2⟩
set_option maxRecDepth 100000 in
theorem pt_1 (N s t : Int) (m c ml cl : Nat) (A L : Option Addr) (w : World) (hf : Few N m) (hb : ml ≤ 2100) (V : Hid (VC N m c A w false)) (P : Hid (PC N s t m c ml cl A L w 1)) : PtP N s t m c ml cl A L w := by
  have HFEW := Lib.hid hf; clear hf
  have q0 : decide (2100 < (ml : Int)) = false := decide_eq_false (by omega)
  clear hb
  have n0 := netAt_new w N A m c
  have b0 := below_new w (.cells #[.int .i64 N, .slice A m c] 24)
  have c0 := n0.c0
  have c1 := n0.c1
  go_enter Try.func6, Try.ntmps6
  go_wp2_with fail
  refine (awake_any _).mono ?_; rintro e w1 ⟨rfl, k⟩
  have n1 := n0.below k
  have b1 := below_next b0 k
  clear n0 b0 k c0 c1
  have c0 := n1.c0
  have c1 := n1.c1
  go_wp2_with fail
  refine (few_any N A m c true _ (yes_iff HFEW.out)).mono ?_; rintro e w2 ⟨rfl, k⟩
  have n2 := n1.below k
  have b2 := below_next b1 k
  clear n1 b1 k c0 c1
  have c0 := n2.c0
  have c1 := n2.c1
  go_wp2_with fail
  refine (V.out _ b2).mono ?_; rintro e w3 ⟨rfl, k⟩
  have n3 := n2.below k
  have b3 := below_next b2 k
  clear n2 b2 k c0 c1
  have c0 := n3.c0
  have c1 := n3.c1
  go_wp2_with fail
  refine (P.out _ b3).mono ?_; rintro e w4 ⟨rfl, k⟩
  have n4 := n3.below k
  have b4 := below_next b3 k
  clear n3 b3 k c0 c1
  have c0 := n4.c0
  have c1 := n4.c1
  go_wp2_with fail
  go_ret
  exact ⟨rfl, b4⟩
set_option maxRecDepth 100000 in
theorem pt_2 (N s t : Int) (m c ml cl : Nat) (A L : Option Addr) (w : World) (hf : Few N m) (hb : ml ≤ 2100) (V : Hid (VC N m c A w true)) (EE : Hid (EC N s t m c A w false)) (P : Hid (PC N s t m c ml cl A L w 2)) : PtP N s t m c ml cl A L w := by
  have HFEW := Lib.hid hf; clear hf
  have q0 : decide (2100 < (ml : Int)) = false := decide_eq_false (by omega)
  clear hb
  have n0 := netAt_new w N A m c
  have b0 := below_new w (.cells #[.int .i64 N, .slice A m c] 24)
  have c0 := n0.c0
  have c1 := n0.c1
  go_enter Try.func6, Try.ntmps6
  go_wp2_with fail
  refine (awake_any _).mono ?_; rintro e w1 ⟨rfl, k⟩
  have n1 := n0.below k
  have b1 := below_next b0 k
  clear n0 b0 k c0 c1
  have c0 := n1.c0
  have c1 := n1.c1
  go_wp2_with fail
  refine (few_any N A m c true _ (yes_iff HFEW.out)).mono ?_; rintro e w2 ⟨rfl, k⟩
  have n2 := n1.below k
  have b2 := below_next b1 k
  clear n1 b1 k c0 c1
  have c0 := n2.c0
  have c1 := n2.c1
  go_wp2_with fail
  refine (V.out _ b2).mono ?_; rintro e w3 ⟨rfl, k⟩
  have n3 := n2.below k
  have b3 := below_next b2 k
  clear n2 b2 k c0 c1
  have c0 := n3.c0
  have c1 := n3.c1
  go_wp2_with fail
  refine (EE.out _ b3).mono ?_; rintro e w4 ⟨rfl, k⟩
  have n4 := n3.below k
  have b4 := below_next b3 k
  clear n3 b3 k c0 c1
  have c0 := n4.c0
  have c1 := n4.c1
  go_wp2_with fail
  refine (P.out _ b4).mono ?_; rintro e w5 ⟨rfl, k⟩
  have n5 := n4.below k
  have b5 := below_next b4 k
  clear n4 b4 k c0 c1
  have c0 := n5.c0
  have c1 := n5.c1
  go_wp2_with fail
  go_ret
  exact ⟨rfl, b5⟩
set_option maxRecDepth 100000 in
theorem pt_3 (N s t : Int) (m c ml cl : Nat) (A L : Option Addr) (w : World) (hf : Few N m) (hb : ml ≤ 2100) (V : Hid (VC N m c A w true)) (EE : Hid (EC N s t m c A w true)) (F : Hid (FC N s t m c ml cl A L w false)) (P : Hid (PC N s t m c ml cl A L w 17)) : PtP N s t m c ml cl A L w := by
  have HFEW := Lib.hid hf; clear hf
  have q0 : decide (2100 < (ml : Int)) = false := decide_eq_false (by omega)
  clear hb
  have n0 := netAt_new w N A m c
  have b0 := below_new w (.cells #[.int .i64 N, .slice A m c] 24)
  have c0 := n0.c0
  have c1 := n0.c1
  go_enter Try.func6, Try.ntmps6
  go_wp2_with fail
  refine (awake_any _).mono ?_; rintro e w1 ⟨rfl, k⟩
  have n1 := n0.below k
  have b1 := below_next b0 k
  clear n0 b0 k c0 c1
  have c0 := n1.c0
  have c1 := n1.c1
  go_wp2_with fail
  refine (few_any N A m c true _ (yes_iff HFEW.out)).mono ?_; rintro e w2 ⟨rfl, k⟩
  have n2 := n1.below k
  have b2 := below_next b1 k
  clear n1 b1 k c0 c1
  have c0 := n2.c0
  have c1 := n2.c1
  go_wp2_with fail
  refine (V.out _ b2).mono ?_; rintro e w3 ⟨rfl, k⟩
  have n3 := n2.below k
  have b3 := below_next b2 k
  clear n2 b2 k c0 c1
  have c0 := n3.c0
  have c1 := n3.c1
  go_wp2_with fail
  refine (EE.out _ b3).mono ?_; rintro e w4 ⟨rfl, k⟩
  have n4 := n3.below k
  have b4 := below_next b3 k
  clear n3 b3 k c0 c1
  have c0 := n4.c0
  have c1 := n4.c1
  go_wp2_with fail
  refine (F.out _ b4).mono ?_; rintro e w5 ⟨rfl, k⟩
  have n5 := n4.below k
  have b5 := below_next b4 k
  clear n4 b4 k c0 c1
  have c0 := n5.c0
  have c1 := n5.c1
  go_wp2_with fail
  refine (P.out _ b5).mono ?_; rintro e w6 ⟨rfl, k⟩
  have n6 := n5.below k
  have b6 := below_next b5 k
  clear n5 b5 k c0 c1
  have c0 := n6.c0
  have c1 := n6.c1
  go_wp2_with fail
  go_ret
  exact ⟨rfl, b6⟩
set_option maxRecDepth 100000 in
theorem pt_4 (N s t VV : Int) (m c ml cl : Nat) (A L : Option Addr) (w : World) (hf : Few N m) (hb : ml ≤ 2100) (hV : VV < 0) (V : Hid (VC N m c A w true)) (EE : Hid (EC N s t m c A w true)) (F : Hid (FC N s t m c ml cl A L w true)) (B : Hid (BC N s m c ml cl A L w VV)) (P : Hid (PC N s t m c ml cl A L w 17)) : PtP N s t m c ml cl A L w := by
  have HFEW := Lib.hid hf; clear hf
  have q0 : decide (2100 < (ml : Int)) = false := decide_eq_false (by omega)
  have q1 : decide (VV < 0) = true := decide_eq_true hV
  clear hb hV
  have n0 := netAt_new w N A m c
  have b0 := below_new w (.cells #[.int .i64 N, .slice A m c] 24)
  have c0 := n0.c0
  have c1 := n0.c1
  go_enter Try.func6, Try.ntmps6
  go_wp2_with fail
  refine (awake_any _).mono ?_; rintro e w1 ⟨rfl, k⟩
  have n1 := n0.below k
  have b1 := below_next b0 k
  clear n0 b0 k c0 c1
  have c0 := n1.c0
  have c1 := n1.c1
  go_wp2_with fail
  refine (few_any N A m c true _ (yes_iff HFEW.out)).mono ?_; rintro e w2 ⟨rfl, k⟩
  have n2 := n1.below k
  have b2 := below_next b1 k
  clear n1 b1 k c0 c1
  have c0 := n2.c0
  have c1 := n2.c1
  go_wp2_with fail
  refine (V.out _ b2).mono ?_; rintro e w3 ⟨rfl, k⟩
  have n3 := n2.below k
  have b3 := below_next b2 k
  clear n2 b2 k c0 c1
  have c0 := n3.c0
  have c1 := n3.c1
  go_wp2_with fail
  refine (EE.out _ b3).mono ?_; rintro e w4 ⟨rfl, k⟩
  have n4 := n3.below k
  have b4 := below_next b3 k
  clear n3 b3 k c0 c1
  have c0 := n4.c0
  have c1 := n4.c1
  go_wp2_with fail
  refine (F.out _ b4).mono ?_; rintro e w5 ⟨rfl, k⟩
  have n5 := n4.below k
  have b5 := below_next b4 k
  clear n4 b4 k c0 c1
  have c0 := n5.c0
  have c1 := n5.c1
  go_wp2_with fail
  refine (B.out _ b5).mono ?_; rintro e w6 ⟨rfl, k⟩
  have n6 := n5.below k
  have b6 := below_next b5 k
  clear n5 b5 k c0 c1
  have c0 := n6.c0
  have c1 := n6.c1
  go_wp2_with fail
  refine (P.out _ b6).mono ?_; rintro e w7 ⟨rfl, k⟩
  have n7 := n6.below k
  have b7 := below_next b6 k
  clear n6 b6 k c0 c1
  have c0 := n7.c0
  have c1 := n7.c1
  go_wp2_with fail
  go_ret
  exact ⟨rfl, b7⟩
set_option maxRecDepth 100000 in
theorem pt_5 (N s t VV : Int) (m c ml cl : Nat) (A L : Option Addr) (w : World) (hf : Few N m) (hb : ml ≤ 2100) (hV : 1000 < VV) (V : Hid (VC N m c A w true)) (EE : Hid (EC N s t m c A w true)) (F : Hid (FC N s t m c ml cl A L w true)) (B : Hid (BC N s m c ml cl A L w VV)) (P : Hid (PC N s t m c ml cl A L w 5)) : PtP N s t m c ml cl A L w := by
  have HFEW := Lib.hid hf; clear hf
  have q0 : decide (2100 < (ml : Int)) = false := decide_eq_false (by omega)
  have q1 : decide (VV < 0) = false := decide_eq_false (by omega)
  have q2 : decide (1000 < VV) = true := decide_eq_true hV
  have q3 : decide (200 < VV) = true := decide_eq_true (by omega)
  clear hb hV
  have n0 := netAt_new w N A m c
  have b0 := below_new w (.cells #[.int .i64 N, .slice A m c] 24)
  have c0 := n0.c0
  have c1 := n0.c1
  go_enter Try.func6, Try.ntmps6
  go_wp2_with fail
  refine (awake_any _).mono ?_; rintro e w1 ⟨rfl, k⟩
  have n1 := n0.below k
  have b1 := below_next b0 k
  clear n0 b0 k c0 c1
  have c0 := n1.c0
  have c1 := n1.c1
  go_wp2_with fail
  refine (few_any N A m c true _ (yes_iff HFEW.out)).mono ?_; rintro e w2 ⟨rfl, k⟩
  have n2 := n1.below k
  have b2 := below_next b1 k
  clear n1 b1 k c0 c1
  have c0 := n2.c0
  have c1 := n2.c1
  go_wp2_with fail
  refine (V.out _ b2).mono ?_; rintro e w3 ⟨rfl, k⟩
  have n3 := n2.below k
  have b3 := below_next b2 k
  clear n2 b2 k c0 c1
  have c0 := n3.c0
  have c1 := n3.c1
  go_wp2_with fail
  refine (EE.out _ b3).mono ?_; rintro e w4 ⟨rfl, k⟩
  have n4 := n3.below k
  have b4 := below_next b3 k
  clear n3 b3 k c0 c1
  have c0 := n4.c0
  have c1 := n4.c1
  go_wp2_with fail
  refine (F.out _ b4).mono ?_; rintro e w5 ⟨rfl, k⟩
  have n5 := n4.below k
  have b5 := below_next b4 k
  clear n4 b4 k c0 c1
  have c0 := n5.c0
  have c1 := n5.c1
  go_wp2_with fail
  refine (B.out _ b5).mono ?_; rintro e w6 ⟨rfl, k⟩
  have n6 := n5.below k
  have b6 := below_next b5 k
  clear n5 b5 k c0 c1
  have c0 := n6.c0
  have c1 := n6.c1
  go_wp2_with fail
  refine (B.out _ b6).mono ?_; rintro e w7 ⟨rfl, k⟩
  have n7 := n6.below k
  have b7 := below_next b6 k
  clear n6 b6 k c0 c1
  have c0 := n7.c0
  have c1 := n7.c1
  go_wp2_with fail
  refine (P.out _ b7).mono ?_; rintro e w8 ⟨rfl, k⟩
  have n8 := n7.below k
  have b8 := below_next b7 k
  clear n7 b7 k c0 c1
  have c0 := n8.c0
  have c1 := n8.c1
  go_wp2_with fail
  go_ret
  exact ⟨rfl, b8⟩
set_option maxRecDepth 100000 in
theorem pt_6 (N s t VV : Int) (m c ml cl : Nat) (A L : Option Addr) (w : World) (hf : Few N m) (hb : ml ≤ 2100) (hV : 200 < VV) (hV2 : VV ≤ 1000) (V : Hid (VC N m c A w true)) (EE : Hid (EC N s t m c A w true)) (F : Hid (FC N s t m c ml cl A L w true)) (B : Hid (BC N s m c ml cl A L w VV)) : PtP N s t m c ml cl A L w := by
  have HFEW := Lib.hid hf; clear hf
  have q0 : decide (2100 < (ml : Int)) = false := decide_eq_false (by omega)
  have q1 : decide (VV < 0) = false := decide_eq_false (by omega)
  have q2 : decide (1000 < VV) = false := decide_eq_false (by omega)
  have q3 : decide (200 < VV) = true := decide_eq_true (by omega)
  clear hb hV hV2
  have n0 := netAt_new w N A m c
  have b0 := below_new w (.cells #[.int .i64 N, .slice A m c] 24)
  have c0 := n0.c0
  have c1 := n0.c1
  go_enter Try.func6, Try.ntmps6
  go_wp2_with fail
  refine (awake_any _).mono ?_; rintro e w1 ⟨rfl, k⟩
  have n1 := n0.below k
  have b1 := below_next b0 k
  clear n0 b0 k c0 c1
  have c0 := n1.c0
  have c1 := n1.c1
  go_wp2_with fail
  refine (few_any N A m c true _ (yes_iff HFEW.out)).mono ?_; rintro e w2 ⟨rfl, k⟩
  have n2 := n1.below k
  have b2 := below_next b1 k
  clear n1 b1 k c0 c1
  have c0 := n2.c0
  have c1 := n2.c1
  go_wp2_with fail
  refine (V.out _ b2).mono ?_; rintro e w3 ⟨rfl, k⟩
  have n3 := n2.below k
  have b3 := below_next b2 k
  clear n2 b2 k c0 c1
  have c0 := n3.c0
  have c1 := n3.c1
  go_wp2_with fail
  refine (EE.out _ b3).mono ?_; rintro e w4 ⟨rfl, k⟩
  have n4 := n3.below k
  have b4 := below_next b3 k
  clear n3 b3 k c0 c1
  have c0 := n4.c0
  have c1 := n4.c1
  go_wp2_with fail
  refine (F.out _ b4).mono ?_; rintro e w5 ⟨rfl, k⟩
  have n5 := n4.below k
  have b5 := below_next b4 k
  clear n4 b4 k c0 c1
  have c0 := n5.c0
  have c1 := n5.c1
  go_wp2_with fail
  refine (B.out _ b5).mono ?_; rintro e w6 ⟨rfl, k⟩
  have n6 := n5.below k
  have b6 := below_next b5 k
  clear n5 b5 k c0 c1
  have c0 := n6.c0
  have c1 := n6.c1
  go_wp2_with fail
  refine (B.out _ b6).mono ?_; rintro e w7 ⟨rfl, k⟩
  have n7 := n6.below k
  have b7 := below_next b6 k
  clear n6 b6 k c0 c1
  have c0 := n7.c0
  have c1 := n7.c1
  go_wp2_with fail
  go_ret
  exact ⟨rfl, b7⟩
/- the steps of the counting -/
theorem fc_step (n : Nat) (p : List Nat) (I : Nat) (F : Nat → Int) (h : 0 < I) : ∀ j, up (fun j => F j + fc n p I j) (p.getD (I - 1) 0 * n + p.getD I 0) (F (p.getD (I - 1) 0 * n + p.getD I 0) + fc n p I (p.getD (I - 1) 0 * n + p.getD I 0) + 1) j = F j + fc n p (I + 1) j := fun j => by
  show (if j = _ then _ else F j + fc n p I j) = F j + (fc n p I j + (if 0 < I ∧ p.getD (I - 1) 0 * n + p.getD I 0 = j then 1 else 0))
  by_cases e : j = p.getD (I - 1) 0 * n + p.getD I 0
  · rw [if_pos e, if_pos ⟨h, e.symm⟩, e]; omega
  · rw [if_neg e, if_neg (fun h2 => e h2.2.symm)]; omega
def eK (N : Net) (l : Nat → Int) (K j : Nat) : Int := sumTo K fun e => if N.fr e * N.n + N.tt e = j then l e else 0
theorem eK_step (N : Net) (l F : Nat → Int) (K : Nat) : ∀ j, up (fun j => F j - eK N l K j) (N.fr K * N.n + N.tt K) (F (N.fr K * N.n + N.tt K) - eK N l K (N.fr K * N.n + N.tt K) - l K) j = F j - eK N l (K + 1) j := fun j => by
  show (if j = _ then _ else F j - eK N l K j) = F j - (eK N l K j + (if N.fr K * N.n + N.tt K = j then l K else 0))
  by_cases e : j = N.fr K * N.n + N.tt K
  · rw [if_pos e, if_pos e.symm, e]; omega
  · rw [if_neg e, if_neg (fun h2 => e h2.symm)]; omega
theorem fc_bound (n : Nat) (p : List Nat) (j : Nat) : ∀ K, 0 ≤ fc n p K j ∧ fc n p K j ≤ K
  | 0 => ⟨Int.le_refl _, Int.le_refl _⟩
  | K + 1 => by
    have ih := fc_bound n p j K
    show 0 ≤ fc n p K j + _ ∧ fc n p K j + _ ≤ _
    split <;> omega
theorem us_bound (n M : Nat) (ps : Nat → List Nat) (j : Nat) : ∀ D, (∀ k, k < D → (ps k).length ≤ M) → 0 ≤ us n ps D j ∧ us n ps D j ≤ (D : Int) * (M : Int)
  | 0, _ => ⟨Int.le_refl _, by simp [us]⟩
  | D + 1, h => by
    have ih := us_bound n M ps j D (fun k hk => h k (by omega))
    have h2 := fc_bound n (ps D) j (ps D).length
    have h3 := h D (by omega)
    have e : ((D + 1 : Nat) : Int) * (M : Int) = D * M + M := by rw [show ((D + 1 : Nat) : Int) = (D : Int) + 1 by omega, Int.add_mul, Int.one_mul]
    show 0 ≤ us n ps D j + fc n (ps D) (ps D).length j ∧ us n ps D j + fc n (ps D) (ps D).length j ≤ _
    omega
theorem eK_bound (N : Net) {l : Nat → Int} {K : Nat} (h : ∀ i, i < K → 0 ≤ l i ∧ l i ≤ 1125899906842624) (hK : K ≤ 2000) (j : Nat) : 0 ≤ eK N l K j ∧ eK N l K j ≤ 2251799813685248000 := by
  refine ⟨sumTo_nonneg fun i hi => ?_, ?_⟩
  · have := h i hi
    show 0 ≤ (if _ then l i else 0)
    split <;> omega
  · have : eK N l K j ≤ (K : Int) * 1125899906842624 := sumTo_bound fun i hi => by
      have := h i hi
      show (if _ then l i else 0) ≤ _
      split <;> omega
    omega
theorem flat_lt {n a b : Nat} (ha : a < n) (hb : b < n) : a * n + b < n * n := by
  have h1 : (a + 1) * n ≤ n * n := Nat.mul_le_mul_right n ha
  rw [Nat.add_mul, Nat.one_mul] at h1
  omega
def PsM (w : World) (n m s t V : Nat) (E : Nat → EdgeD) (l : Nat → Int) (e : Ending) (w' : World) : Prop :=
  ∃ base gP ps f, e = .returned (.tuple #[.slice (some ⟨gP, 0, none⟩) V V, .int .i64 0]) ∧ PsAt w' base gP V V ps ∧ (∀ k, k < V → (netOf n m E).Path s t (ps k)) ∧ (∀ i, i < m → 0 ≤ f i) ∧ (∀ j, (netOf n m E).eS l j - (netOf n m E).eS f j = us n ps V j) ∧ w.heap.size ≤ base ∧ Below w.heap.size w w'
set_option maxRecDepth 100000 in
set_option maxHeartbeats 16000000 in
theorem pt_7 (n s t m c cl V0 : Nat) (A L : Option Addr) (E : Nat → EdgeD) (l : Nat → Int) (w : World) (h : Edges w A m E) (hv : VNet n m E) (hL : Ints w L m l) (hn : n ≤ 60) (hm : m ≤ 100) (hV0 : V0 ≤ 200) (hl : ∀ i, i < m → 0 ≤ l i ∧ l i ≤ 1125899906842624) (hf : Few n m)
    (V : Hid (VC n m c A w true)) (EE : Hid (EC n s t m c A w true)) (F : Hid (FC n s t m c m cl A L w true)) (B : Hid (BC n s m c m cl A L w V0)) (P : Hid (∀ u, Below w.heap.size w u → Calls Try.prog 26 #[.agg #[.int .i64 n, .slice A m c], .int .i64 s, .int .i64 t, .slice L m cl] u (PsM u n m s t V0 E l))) : PtP n s t m c m cl A L w := by
  have HFEW := Lib.hid hf; clear hf
  have HE := Lib.hid h; clear h
  have HV := Lib.hid hv; clear hv
  have HL := Lib.hid hL; clear hL
  have HLB := Lib.hid hl; clear hl
  have q0 : decide (2100 < (m : Int)) = false := decide_eq_false (by omega)
  have q1 : decide ((V0 : Int) < 0) = false := decide_eq_false (by omega)
  have q2 : decide (1000 < (V0 : Int)) = false := decide_eq_false (by omega)
  have q3 : decide (200 < (V0 : Int)) = false := decide_eq_false (by omega)
  have q4 : ((V0 : Int) != (V0 : Int)) = false := by simp
  have n0 := netAt_new w n A m c
  have b0 := below_new w (.cells #[.int .i64 n, .slice A m c] 24)
  have c0 := n0.c0
  have c1 := n0.c1
  go_enter Try.func6, Try.ntmps6
  go_wp2_with fail
  refine (awake_any _).mono ?_; rintro e w1 ⟨rfl, k⟩
  have n1 := n0.below k
  have b1 := below_next b0 k
  clear n0 b0 k c0 c1
  have c0 := n1.c0
  have c1 := n1.c1
  go_wp2_with fail
  refine (few_any n A m c true _ (yes_iff HFEW.out)).mono ?_; rintro e w2 ⟨rfl, k⟩
  have n2 := n1.below k
  have b2 := below_next b1 k
  clear n1 b1 k c0 c1
  have c0 := n2.c0
  have c1 := n2.c1
  go_wp2_with fail
  refine (V.out _ b2).mono ?_; rintro e w3 ⟨rfl, k⟩
  have n3 := n2.below k
  have b3 := below_next b2 k
  clear n2 b2 k c0 c1
  have c0 := n3.c0
  have c1 := n3.c1
  go_wp2_with fail
  refine (EE.out _ b3).mono ?_; rintro e w4 ⟨rfl, k⟩
  have n4 := n3.below k
  have b4 := below_next b3 k
  clear n3 b3 k c0 c1
  have c0 := n4.c0
  have c1 := n4.c1
  go_wp2_with fail
  refine (F.out _ b4).mono ?_; rintro e w5 ⟨rfl, k⟩
  have n5 := n4.below k
  have b5 := below_next b4 k
  clear n4 b4 k c0 c1
  have c0 := n5.c0
  have c1 := n5.c1
  go_wp2_with fail
  refine (B.out _ b5).mono ?_; rintro e w6 ⟨rfl, k⟩
  have n6 := n5.below k
  have b6 := below_next b5 k
  clear n5 b5 k c0 c1
  have c0 := n6.c0
  have c1 := n6.c1
  go_wp2_with fail
  refine (B.out _ b6).mono ?_; rintro e w7 ⟨rfl, k⟩
  have n7 := n6.below k
  have b7 := below_next b6 k
  clear n6 b6 k c0 c1
  have c0 := n7.c0
  have c1 := n7.c1
  go_wp2_with fail
  refine (P.out _ b7).mono ?_; rintro e w8 ⟨base, gP, ps, f, rfl, hP, hpa, hf0, huse, hbase, k⟩
  have n8 := n7.below k
  have b8 := below_next b7 k
  clear n7 b7 k c0 c1
  have c0 := n8.c0
  have c1 := n8.c1
  skip
  obtain ⟨nn, hnn⟩ : ∃ nn, n * n = nn := ⟨_, rfl⟩
  have hnn2 : nn ≤ 3600 := by rw [← hnn]; exact Nat.mul_le_mul hn hn
  have hmul : IntKind.i64.wrap ((n : Int) * (n : Int)) = (nn : Int) := by rw [← hnn, Int.natCast_mul]; exact IntWalk.i64_in _ (by have h9 : ((n * n : Nat) : Int) = (n : Int) * (n : Int) := Int.natCast_mul _ _; omega)
  have hmk := make_ints nn (by omega)
  have HNN := Lib.hid hnn
  clear hnn
  have HPA := Lib.hid hpa
  have HF0 := Lib.hid hf0
  have HUSE := Lib.hid huse
  clear hpa hf0 huse
  have hPl : gP < w8.heap.size := by obtain ⟨G, h1, _⟩ := hP.row; exact h1.lt
  have nU := n8.alloc (.cells (madeCells #[.int .i64 0] nn) 3)
  have bU := b8.alloc b8.size (.cells (madeCells #[.int .i64 0] nn) 3)
  have hU := World.rowIs_made w8 (.int .i64 0) nn 3
  have HPX : Hid (∀ k, k < V0 → ∃ g c, (w8.alloc (.cells (madeCells #[.int .i64 0] nn) 3)).cell? ⟨gP, k, none⟩ = some (.slice (some ⟨g, 0, none⟩) (ps k).length c) ∧ LAt (w8.alloc (.cells (madeCells #[.int .i64 0] nn) 3)) g (ps k) ∧ g < w8.heap.size ∧ (ps k).length ≤ c) := fun k hk => by
    obtain ⟨G, h1, h2⟩ := hP.row
    obtain ⟨g, c, h3, h4, h5, h6, h7⟩ := h2 k hk
    exact ⟨g, c, by rw [(h1.alloc _).cell hk, h3], h4.of_block (Below.heap_alloc w8 _ g h4.lt), h4.lt, h7⟩
  have hwl : w.heap.size < w8.heap.size := n8.lt
  go_upto_region 25 with fail
  go_wp2_with fail
  clear n8 b8 c0 c1 hmk hmul hP q0 q1 q2 q3 q4 V EE F B P
  generalize w8.alloc (.cells (madeCells #[.int .i64 0] nn) 3) = W at *
  generalize w8.heap.size = gU at *
  have hU0 : W.rowIs gU 3 nn (ivals (us n ps 0)) := hU
  clear hU hbase
  go_loopw [15, 16, 17, 94, 127] (fun _ _ _ i _ wr => ∃ D : Nat, D ≤ V0 ∧ i = .int .i64 D ∧ wr.rowIs gU 3 nn (ivals (us n ps D)) ∧ Below gU W wr) (fun _ _ _ i _ _ => V0 - (intOf i).toNat)
  case atStart => exact ⟨0, by omega, rfl, hU0, Below.refl _ _⟩
  case round =>
    clear hU0
    obtain ⟨D, hD, rfl, hR, hB⟩ := hrel
    have hwrap : IntKind.i64.wrap ((D : Int) + 1) = (D : Int) + 1 := IntWalk.i64_in _ (by omega)
    have c0 : wr.cell? ⟨w.heap.size, 0, none⟩ = some (.int .i64 (n : Int)) := (hB.cell (p := ⟨w.heap.size, 0, none⟩) (by exact hwl)).trans nU.c0
    have c1 : wr.cell? ⟨w.heap.size, 1, none⟩ = some (.slice A m c) := (hB.cell (p := ⟨w.heap.size, 1, none⟩) (by exact hwl)).trans nU.c1
    by_cases hlt : D < V0
    · obtain ⟨g, cg, x0, hlat, hgl, hcg⟩ := HPX.out D hlt
      have hpt := HPA.out D hlt
      have hnext : Hid (∀ j, us n ps (D + 1) j = us n ps D j + fc n (ps D) (ps D).length j) := fun _ => rfl
      have hub := Lib.hid (fun j => us_bound n 60 ps j D (fun k hk => Nat.le_trans (HPA.out k (by omega)).ln (by exact hn)))
      generalize ps D = p at *
      obtain ⟨q, hq⟩ : ∃ q, p.length = q + 1 := ⟨p.length - 1, by have := hpt.l2; omega⟩
      have hq1 : 1 ≤ q := by have := hpt.l2; omega
      have hqn : q + 1 ≤ n := by have := hpt.ln; have h9 : (netOf n m E).n = n := rfl; omega
      have x0' := (hB.cell (p := ⟨gP, D, none⟩) (by exact hPl)).trans x0
      rw [hq] at x0' hcg
      have hlw : LAt wr g p := hlat.of_block (hB.block g hgl)
      have hd0 : p.getD 0 0 = s := by rw [List.getD_eq_getElem?_getD, hpt.hd]; rfl
      have hdq : p.getD q 0 = t := by have := hpt.la; rw [hq, show q + 1 - 1 = q by omega] at this; rw [List.getD_eq_getElem?_getD, this]; rfl
      have y0 := hlw.cellD (k := 0) (by omega)
      have yq := hlw.cellD (k := q) (by omega)
      rw [hd0] at y0
      rw [hdq] at yq
      have t1 : decide ((q : Int) + 1 < 2) = false := decide_eq_false (by omega)
      have t1' : decide (q + 1 < 2) = false := decide_eq_false (by omega)
      have t2 : decide ((n : Int) < (q : Int) + 1) = false := decide_eq_false (by omega)
      have t2' : decide (n < q + 1) = false := decide_eq_false (by omega)
      have t3 : ((s : Int) != (s : Int)) = false := by simp
      have t4 : ((t : Int) != (t : Int)) = false := by simp
      have HQ := Lib.hid hq
      have HPT := Lib.hid hpt
      have HLAT := Lib.hid hlat
      have F0 : Hid (∀ j, us n ps D j = us n ps D j + fc n p 0 j) := fun j => by show _ = _ + (0 : Int); omega
      have HR := Lib.hid hR
      have HB := Lib.hid hB
      clear hq hpt hlw hd0 hdq x0 hlat hR
      go_upto_region 31 with fail
      clear x0' y0 yq t1 t1' t2 t2' t3 t4 c0 c1
      go_wp2_with fail
      go_loopw [16, 17, 127] (fun _ _ i wx => ∃ I : Nat, I ≤ q + 1 ∧ i = .int .i64 I ∧ wx.rowIs gU 3 nn (ivals (fun j => us n ps D j + fc n p I j)) ∧ Below gU W wx) (fun _ _ i _ => q + 1 - (intOf i).toNat)
      case atStart => exact ⟨0, by omega, rfl, HR.out.congr (fun j _ => congrArg (Value.int IntKind.i64) (F0.out j)), HB.out⟩
      case round =>
        clear hB
        obtain ⟨I, hI, rfl, hR, hB⟩ := hrel
        have hwrap2 : IntKind.i64.wrap ((I : Int) + 1) = (I : Int) + 1 := IntWalk.i64_in _ (by omega)
        by_cases hlt2 : I < q + 1
        · have hlw : LAt wr g p := HLAT.out.of_block (hB.block g hgl)
          have c0 : wr.cell? ⟨w.heap.size, 0, none⟩ = some (.int .i64 (n : Int)) := (hB.cell (p := ⟨w.heap.size, 0, none⟩) (by exact hwl)).trans nU.c0
          have hIl : I < p.length := by have := HQ.out; omega
          have yI := hlw.cellD hIl
          have hgd : p.getD I 0 = p[I] := by rw [List.getD_eq_getElem?_getD, List.getElem?_eq_getElem hIl]; rfl
          have hvn : p.getD I 0 < n := by rw [hgd]; exact HPT.out.lt _ (List.getElem_mem hIl)
          have HCN := Lib.hid (fun c => contains_no g I c (p.getD I 0) p wr hlw (by omega) (by have := HQ.out; omega) (fun k hk he => by
            have hkl : k < p.length := by omega
            rw [hgd, List.getD_eq_getElem?_getD, List.getElem?_eq_getElem hkl] at he
            have hp := List.pairwise_iff_getElem.1 HPT.out.nd k I hkl hIl hk
            exact hp he))
          clear hgd
          have hfcs : Hid (0 < I → ∀ j, up (fun j => us n ps D j + fc n p I j) (p.getD (I - 1) 0 * n + p.getD I 0) (us n ps D (p.getD (I - 1) 0 * n + p.getD I 0) + fc n p I (p.getD (I - 1) 0 * n + p.getD I 0) + 1) j = us n ps D j + fc n p (I + 1) j) := fun h => fc_step n p I (us n ps D) h
          have hfc0 : Hid (I = 0 → ∀ j, us n ps D j + fc n p I j = us n ps D j + fc n p (I + 1) j) := fun h j => by
            subst h
            show _ = us n ps D j + (fc n p 0 j + (if 0 < 0 ∧ _ then 1 else 0))
            rw [if_neg (by omega)]; omega
          have hprev : Hid (0 < I → wr.cell? ⟨g, I - 1, none⟩ = some (.int .i64 (p.getD (I - 1) 0 : Nat)) ∧ p.getD (I - 1) 0 < n) := fun h => by
            have hl1 : I - 1 < p.length := by omega
            refine ⟨hlw.cellD hl1, ?_⟩
            rw [List.getD_eq_getElem?_getD, List.getElem?_eq_getElem hl1]
            exact HPT.out.lt _ (List.getElem_mem hl1)
          have hbd : Hid (∀ j, 0 ≤ us n ps D j + fc n p I j ∧ us n ps D j + fc n p I j ≤ 20000) := fun j => by
            have h1 := hub.out j
            have h2 := fc_bound n p j I
            omega
          clear hlw
          generalize p.getD I 0 = v at *
          have t5 : decide ((v : Int) < 0) = false := decide_eq_false (by omega)
          have t6 : decide ((n : Int) ≤ (v : Int)) = false := decide_eq_false (by omega)
          have t6' : decide (n ≤ v) = false := decide_eq_false (by omega)
          by_cases hI0 : I = 0
          · have hrow := Lib.hid (hR.congr (g := ivals (fun j => us n ps D j + fc n p (I + 1) j)) (fun j _ => congrArg (Value.int IntKind.i64) (hfc0.out hI0 j)))
            have t7 : decide (0 < (I : Int)) = false := decide_eq_false (by omega)
            have t7' : decide (0 < I) = false := decide_eq_false (by omega)
            clear hfcs hfc0 hprev hbd hR hI0
            go_wp2_with fail
            refine (HCN.out _).mono ?_; rintro e w9 ⟨rfl, rfl⟩
            go_wp2_with fail
            go_roundw
            case rel => exact ⟨I + 1, by omega, by go_num, hrow.out, hB⟩
            case measure => simp [intOf]; omega
          · obtain ⟨i1, rfl⟩ : ∃ i1, I = i1 + 1 := ⟨I - 1, by omega⟩
            have hI1 : 0 < i1 + 1 := by omega
            obtain ⟨x1, hal⟩ := hprev.out hI1
            have hst0 := hfcs.out hI1
            rw [show i1 + 1 - 1 = i1 by omega] at x1 hal hst0
            have hst := Lib.hid hst0
            clear hst0
            have t7 : decide (0 < ((i1 : Int) + 1)) = true := decide_eq_true (by omega)
            have t7' : decide (0 < i1 + 1) = true := decide_eq_true hI1
            generalize p.getD i1 0 = a at *
            have hfl := flat_lt hal hvn
            rw [HNN.out] at hfl
            obtain ⟨an, han⟩ : ∃ an, a * n = an := ⟨_, rfl⟩
            have hmul : IntKind.i64.wrap ((a : Int) * (n : Int)) = (an : Int) := by rw [← han, Int.natCast_mul]; exact IntWalk.i64_in _ (by have h9 : ((a * n : Nat) : Int) = (a : Int) * (n : Int) := Int.natCast_mul _ _; omega)
            rw [han] at hst hfl
            have hsum : IntKind.i64.wrap ((an : Int) + (v : Int)) = (an : Int) + (v : Int) := IntWalk.i64_in _ (by omega)
            have hb1 := hbd.out (an + v)
            have z0 := hR.cell hfl
            replace z0 : wr.cell? ⟨gU, an + v, none⟩ = some (.int .i64 (us n ps D (an + v) + fc n p (i1 + 1) (an + v))) := z0
            have z1 := hR.frozen (an + v)
            have HR2 := Lib.hid (fun (u : World) (hu : u.rowIs gU 3 nn (ivals (fun j => us n ps D j + fc n p (i1 + 1) j))) => ivals_set hu hst.out)
            generalize us n ps D (an + v) + fc n p (i1 + 1) (an + v) = y at *
            have hwy : IntKind.i64.wrap (y + 1) = y + 1 := IntWalk.i64_in _ (by omega)
            have hI2 : IntKind.i64.wrap (i1 : Int) = (i1 : Int) := IntWalk.i64_in _ (by omega)
            have hs3 : ((an : Int) + (v : Int)).toNat = an + v := by omega
            have hs4 : (0 : Int) ≤ (an : Int) + (v : Int) := by omega
            have hs5 : (an : Int) + (v : Int) < (nn : Int) := by omega
            have hI5 : i1 < q + 1 := by omega
            have hI6 : i1 ≤ q := by omega
            have hI7 : (i1 : Int) < (q : Int) + 1 := by omega
            have hI8 : (0 : Int) ≤ (i1 : Int) := by omega
            clear hfcs hfc0 hprev hbd han hst
            go_wp2_with fail
            refine (HCN.out _).mono ?_; rintro e w9 ⟨rfl, rfl⟩
            go_upto_region 37 with fail
            go_still_tail 15, (by kernel_rfl)
            change wpList _ _ _ _ _ wr.drew
            have d0 : wr.drew.cell? ⟨gU, an + v, none⟩ = _ := z0
            have d1 : wr.drew.frozen? ⟨gU, an + v, none⟩ = false := z1
            have hR2 := HR2.out wr.drew hR
            have hB2 := hB.drew.setCell (p := ⟨gU, an + v, none⟩) (Nat.le_refl _) (.int .i64 (y + 1))
            generalize wr.drew = W1 at *
            clear hR hB
            go_wp2_with fail
            go_roundw
            case rel => exact ⟨i1 + 1 + 1, by omega, by go_num, hR2, hB2⟩
            case measure => simp [intOf]; omega
        · obtain rfl : I = q + 1 := by omega
          have hrow := hR.congr (g := ivals (us n ps (D + 1))) (fun j _ => by unfold ivals; rw [hnext.out j, HQ.out])
          clear hR
          go_wp2_with fail
          go_roundw
          case rel => exact ⟨D + 1, by omega, by go_num, hrow, hB⟩
          case measure => simp [intOf]; omega
    · obtain rfl : D = V0 := by omega
      have he0 : Hid (∀ j, us n ps D j = us n ps D j - eK (netOf n m E) l 0 j) := fun j => by show _ = _ - (0 : Int); omega
      have hub := Lib.hid (fun j => us_bound n 60 ps j D (fun k hk => Nat.le_trans (HPA.out k (by omega)).ln (by exact hn)))
      have HR := Lib.hid hR
      have HB := Lib.hid hB
      clear hR
      go_upto_region 40 with fail
      go_wp2_with fail
      clear c0 c1
      go_loopw [18, 19, 169] (fun _ _ i wx => ∃ K : Nat, K ≤ m ∧ i = .int .i64 K ∧ wx.rowIs gU 3 nn (ivals (fun j => us n ps D j - eK (netOf n m E) l K j)) ∧ Below gU W wx) (fun _ _ i _ => m - (intOf i).toNat)
      case atStart => exact ⟨0, by omega, rfl, HR.out.congr (fun j _ => congrArg (Value.int IntKind.i64) (he0.out j)), HB.out⟩
      case round =>
        clear hB
        obtain ⟨K, hK, rfl, hR, hB⟩ := hrel
        have hwrap2 : IntKind.i64.wrap ((K : Int) + 1) = (K : Int) + 1 := IntWalk.i64_in _ (by omega)
        by_cases hlt2 : K < m
        · obtain ⟨bE, oE, eA, hbE, hcz⟩ := HE.out (by omega)
          obtain ⟨bL, oL, eL, hbL, hcL⟩ := HL.out (by omega)
          have toW : ∀ (b o : Nat), b < w.heap.size → wr.cell? ⟨b, o, none⟩ = w.cell? ⟨b, o, none⟩ := fun b o hb => (hB.cell (p := ⟨b, o, none⟩) (by show b < gU; omega)).trans (bU.cell (p := ⟨b, o, none⟩) hb)
          obtain ⟨v0, v1, v2⟩ := hcz K hlt2
          have x0 := (toW bE _ hbE).trans v0
          have x1 := (toW bE _ hbE).trans v1
          have x2 := (toW bE _ hbE).trans v2
          have xl := (toW bL _ hbL).trans (hcL K hlt2)
          have hsz := hB.size
          have hWs := hR.lt
          have hbEw : bE < wr.heap.size := by omega
          have hbLw : bL < wr.heap.size := by omega
          have c0 : wr.cell? ⟨w.heap.size, 0, none⟩ = some (.int .i64 (n : Int)) := (hB.cell (p := ⟨w.heap.size, 0, none⟩) (by exact hwl)).trans nU.c0
          have hww : w.heap.size < wr.heap.size := by omega
          clear toW hcz hcL v0 v1 v2
          subst eA eL
          have hfn := HV.out.ok.fr K hlt2
          have htn := HV.out.ok.tt K hlt2
          rw [HV.out.fr hlt2] at x0
          rw [HV.out.tt hlt2] at x1
          replace hfn : (netOf n m E).fr K < n := hfn
          replace htn : (netOf n m E).tt K < n := htn
          have hst := Lib.hid (eK_step (netOf n m E) l (us n ps D) K)
          have hfl := flat_lt hfn htn
          rw [HNN.out] at hfl
          have hlk := HLB.out K hlt2
          have hbd : Hid (∀ j, -2251799813685248000 ≤ us n ps D j - eK (netOf n m E) l K j ∧ us n ps D j - eK (netOf n m E) l K j ≤ 20000) := fun j => by
            have h1 := hub.out j
            have h2 := eK_bound (netOf n m E) (l := l) (K := K) (fun i hi => HLB.out i (by omega)) (by omega) j
            omega
          have e2 : (wr.alloc (.cells #[.int .i64 ((netOf n m E).fr K : Nat), .int .i64 ((netOf n m E).tt K : Nat), .int .i64 (E K).c] 50)).heap[wr.heap.size]? = some (.cells #[.int .i64 ((netOf n m E).fr K : Nat), .int .i64 ((netOf n m E).tt K : Nat), .int .i64 (E K).c] 50 (0, 0)) := heap_alloc_new wr _
          have bE2 := below_new wr (.cells #[.int .i64 ((netOf n m E).fr K : Nat), .int .i64 ((netOf n m E).tt K : Nat), .int .i64 (E K).c] 50)
          have hR1 := row_below hR bE2
          have hB1 := hB.alloc (by omega) (.cells #[.int .i64 ((netOf n m E).fr K : Nat), .int .i64 ((netOf n m E).tt K : Nat), .int .i64 (E K).c] 50)
          have xl1 := (bE2.cell (p := ⟨bL, oL + K, none⟩) hbLw).trans xl
          have c01 := (bE2.cell (p := ⟨w.heap.size, 0, none⟩) hww).trans c0
          have hst2 : Hid (∀ j, up (fun j => us n ps D j - eK (netOf n m E) l K j) ((netOf n m E).fr K * n + (netOf n m E).tt K) (us n ps D ((netOf n m E).fr K * n + (netOf n m E).tt K) - eK (netOf n m E) l K ((netOf n m E).fr K * n + (netOf n m E).tt K) - l K) j = us n ps D j - eK (netOf n m E) l (K + 1) j) := hst.out
          clear hst hR hB
          generalize (netOf n m E).fr K = fr at *
          generalize (netOf n m E).tt K = tt at *
          generalize (E K).c = ec at *
          generalize l K = lk at *
          obtain ⟨an, han⟩ : ∃ an, fr * n = an := ⟨_, rfl⟩
          have hmul : IntKind.i64.wrap ((fr : Int) * (n : Int)) = (an : Int) := by rw [← han, Int.natCast_mul]; exact IntWalk.i64_in _ (by have h9 : ((fr * n : Nat) : Int) = (fr : Int) * (n : Int) := Int.natCast_mul _ _; omega)
          rw [han] at hst2 hfl
          have hsum : IntKind.i64.wrap ((an : Int) + (tt : Int)) = (an : Int) + (tt : Int) := IntWalk.i64_in _ (by omega)
          have hb1 := hbd.out (an + tt)
          go_upto_region 43 with fail
          generalize wr.alloc (.cells #[.int .i64 (fr : Nat), .int .i64 (tt : Nat), .int .i64 ec] 50) = W2 at *
          have z0 := hR1.cell hfl
          replace z0 : W2.cell? ⟨gU, an + tt, none⟩ = some (.int .i64 (us n ps D (an + tt) - eK (netOf n m E) l K (an + tt))) := z0
          have z1 := hR1.frozen (an + tt)
          have HR2 := Lib.hid (fun (u : World) (hu : u.rowIs gU 3 nn (ivals (fun j => us n ps D j - eK (netOf n m E) l K j))) => ivals_set hu hst2.out)
          generalize us n ps D (an + tt) - eK (netOf n m E) l K (an + tt) = y at *
          have hwy : IntKind.i64.wrap (y - lk) = y - lk := IntWalk.i64_in _ (by omega)
          have hs3 : ((an : Int) + (tt : Int)).toNat = an + tt := by omega
          have hs4 : (0 : Int) ≤ (an : Int) + (tt : Int) := by omega
          have hs5 : (an : Int) + (tt : Int) < (nn : Int) := by omega
          have y0 : W2.cell? ⟨wr.heap.size, 0, none⟩ = some (.int .i64 (fr : Int)) := cell_of_row _ _ 0 _ _ _ e2
          have y1 : W2.cell? ⟨wr.heap.size, 1, none⟩ = some (.int .i64 (tt : Int)) := cell_of_row _ _ 1 _ _ _ e2
          clear x0 x1 x2 xl c0 e2 bE2 han hst2 hbd
          go_still_tail 17, (by kernel_rfl)
          change wpList _ _ _ _ _ W2.drew
          have d0 : W2.drew.cell? ⟨gU, an + tt, none⟩ = _ := z0
          have d1 : W2.drew.frozen? ⟨gU, an + tt, none⟩ = false := z1
          have hR2 := HR2.out W2.drew hR1
          have hB2 := hB1.drew.setCell (p := ⟨gU, an + tt, none⟩) (Nat.le_refl _) (.int .i64 (y - lk))
          generalize W2.drew = W3 at *
          clear hR1 hB1
          go_wp2_with fail
          go_roundw
          case rel => exact ⟨K + 1, by omega, by go_num, hR2, hB2⟩
          case measure => simp [intOf]; omega
        · obtain rfl : K = m := by omega
          have hle : ∀ j, j < nn → us n ps D j - eK (netOf n K E) l K j ≤ 0 := fun j _ => by
            have h1 := HUSE.out j
            have h2 : (netOf n K E).eS l j = eK (netOf n K E) l K j := rfl
            have h3 : 0 ≤ (netOf n K E).eS f j := sumTo_nonneg fun i hi => by
              have := HF0.out i hi
              show 0 ≤ (if _ then f i else 0)
              split <;> omega
            omega
          have HCP := Lib.hid (contains_pos gU nn _ wr hR (by omega) hle)
          clear hle
          go_wp2_with fail
          refine HCP.out.mono ?_; rintro e w9 ⟨rfl, rfl⟩
          go_wp2_with fail
          go_ret
          exact ⟨rfl, bU.trans (hB.mono (by omega))⟩
theorem pt_law (N s t : Int) (m c ml cl : Nat) (A L : Option Addr) (E : Nat → EdgeD) (g : Nat → Int) (w : World) (h : Edges w A m E) (hL : Ints w L ml g) : PtP N s t m c ml cl A L w := by
  by_cases hf : Few N m
  · by_cases hb : 2100 < ml
    · exact pt_big N s t m c ml cl A L w hf hb
    · have hb' : ml ≤ 2100 := by omega
      by_cases hv : VNet N m E
      · have V : VC N m c A w true := fun u hu => refValid_y N A m c E u (h.below hu) hv
        by_cases hp : Pair N s t
        · have EE : EC N s t m c A w true := fun u _ => ends_any N s t A m c true u (yes_iff hp)
          have C1 : Hid (∀ u, Below w.heap.size w u → Calls Try.prog 39 #[.agg #[.int .i64 N, .slice A m c], .int .i64 s, .int .i64 t] u fun e w' => e = .returned (.int .i64 0) ∧ Below u.heap.size u w') := fun u hu => argErr_ok N s t A m c E u (h.below hu) hv hp
          obtain ⟨n, rfl⟩ := Int.eq_ofNat_of_zero_le (show 0 ≤ N by have := hv.1; omega)
          obtain ⟨s, rfl⟩ := Int.eq_ofNat_of_zero_le hp.2.1.1
          obtain ⟨t, rfl⟩ := Int.eq_ofNat_of_zero_le hp.2.2.1
          have hs : s < n := by have := hp.2.1.2; omega
          have ht : t < n := by have := hp.2.2.2; omega
          have hst : s ≠ t := fun e => hp.1 (by rw [e])
          have hn5 : n ≤ 512 := by have := hv.2.1; omega
          have hm5 := hv.2.2.1
          have sub : ∀ {u}, Below w.heap.size w u → ∀ {x}, Below u.heap.size u x → Below w.heap.size w x := fun hu _ hx => below_next hu hx
          by_cases hfp : FlowP n m ml s t E g
          · obtain ⟨rfl, hg, hbal⟩ := hfp
            have hfp : FlowP n ml ml s t E g := ⟨rfl, hg, hbal⟩
            have hrg : ∀ i, i < ml → 0 ≤ g i ∧ g i ≤ 1125899906842624 := fun i hi => ⟨(hg i hi).1, Int.le_trans (hg i hi).2 (hv.ok.c1 i hi)⟩
            have F : FC n s t ml c ml cl A L w true := fun u hu => refFlow_any n s t ml ml c cl true A L E g u (h.below hu) hv (hL.below hu) (yes_iff hfp)
            have D1 : Hid (∀ u, Below w.heap.size w u → Calls Try.prog 40 #[.agg #[.int .i64 n, .slice A ml c], .int .i64 s, .int .i64 t, .slice L ml cl] u fun e w' => e = .returned (.bool true) ∧ Below u.heap.size u w') := fun u hu => isFlow_any n s t ml ml c cl true A L E g u (h.below hu) hv (hL.below hu) (yes_iff hfp)
            obtain ⟨VV, hVV⟩ : ∃ VV, (netOf n ml E).bal g s = VV := ⟨_, rfl⟩
            have B : BC n s ml c ml cl A L w VV := fun u hu => by rw [← hVV]; exact refValue_any n ml c cl s A L E g u (h.below hu) hv (hL.below hu) hrg
            have F1 : Hid (∀ u, Below w.heap.size w u → Calls Try.prog 42 #[.agg #[.int .i64 n, .slice A ml c], .int .i64 s, .slice L ml cl] u fun e w' => e = .returned (.int .i64 VV) ∧ Below u.heap.size u w') := fun u hu => by rw [← hVV]; exact value_any n ml c cl s A L E g u (h.below hu) hv (hL.below hu) hrg hs
            by_cases h0 : VV < 0
            · exact pt_4 n s t VV ml c ml cl A L w hf hb' h0 V EE F B (Lib.hid fun u hu => pth_val n s t VV 17 ml c ml cl A L u (Or.inl ⟨h0, rfl⟩) (Lib.hid fun x hx => C1.out x (sub hu hx)) (Lib.hid fun x hx => D1.out x (sub hu hx)) (Lib.hid fun x hx => F1.out x (sub hu hx)))
            · by_cases h1 : 1000 < VV
              · exact pt_5 n s t VV ml c ml cl A L w hf hb' h1 V EE F B (Lib.hid fun u hu => pth_val n s t VV 5 ml c ml cl A L u (Or.inr ⟨h1, rfl⟩) (Lib.hid fun x hx => C1.out x (sub hu hx)) (Lib.hid fun x hx => D1.out x (sub hu hx)) (Lib.hid fun x hx => F1.out x (sub hu hx)))
              · by_cases h2 : 200 < VV
                · exact pt_6 n s t VV ml c ml cl A L w hf hb' h2 (by omega) V EE F B
                · obtain ⟨V0, rfl⟩ := Int.eq_ofNat_of_zero_le (show 0 ≤ VV by omega)
                  have hf2 := hf
                  unfold Few at hf2
                  exact pt_7 n s t ml c cl V0 A L E g w h hv hL (by omega) (by omega) (by omega) hrg hf V EE F B (Lib.hid fun u hu => pth_ok n s t ml c cl V0 A L E g u (h.below hu) hv (hL.below hu) hs ht hst hfp hVV (by omega))
          · have F : FC n s t m c ml cl A L w false := fun u hu => refFlow_any n s t m ml c cl false A L E g u (h.below hu) hv (hL.below hu) (no_iff hfp)
            exact pt_3 n s t m c ml cl A L w hf hb' V EE F (Lib.hid fun u hu => pth_flow n s t m c ml cl A L u (Lib.hid fun x hx => C1.out x (sub hu hx)) (Lib.hid fun x hx => isFlow_any n s t m ml c cl false A L E g x (h.below (sub hu hx)) hv (hL.below (sub hu hx)) (no_iff hfp)))
        · exact pt_2 N s t m c ml cl A L w hf hb' V (fun u _ => ends_any N s t A m c false u (no_iff hp)) (Lib.hid fun u hu => pth_arg N s t 2 m c ml cl A L u (Or.inr rfl) (Lib.hid fun x hx => argErr_range N s t A m c E x (h.below (below_next hu hx)) hv hp))
      · exact pt_1 N s t m c ml cl A L w hf hb' (fun u hu => refValid_n N A m c E u (h.below hu) hv) (Lib.hid fun u hu => pth_arg N s t 1 m c ml cl A L u (Or.inl rfl) (Lib.hid fun x hx => argErr_arg N s t A m c E x (h.below (below_next hu hx)) hv))
  · exact pt_few N s t m c ml cl A L w hf
end Go.Proofs.Ytjdceafkcakbjaa
